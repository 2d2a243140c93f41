"""Points 32 to 34: a town of keepers, its letters and its trail."""

import inspect
import unittest

from coinlanes.bounds import FEE, GAP
from coinlanes.errors import (
    Begun, CoinError, NoBill, NoCoins, NoFees, NoHand, NoLane, NoLetter, NoName, NoNumber, NoSecret, NoWay, Old,
    Settled, Twice)
from coinlanes.seals import seal_of
from coinlanes.towns import Town
from things import FORTY, GREATEST, NO_NAMES, NO_POSITIVE, NO_WHOLE

SEALS = [seal_of(secret) for secret in range(60)]
S = SEALS[7]
PASS = ("pass",)
NO_HANDS = NO_NAMES + ["emil", "ann", "annaa"]
# The words of the deeds, each with a call that is refused in a town of anna, bert and carl that has begun.
REFUSED = [
    ("come", Begun, lambda town: town.come("dora", coins=5)),
    ("lane", NoHand, lambda town: town.lane("anna", "emil", left_coins=1)),
    ("lane", NoCoins, lambda town: town.lane("anna", "bert", left_coins=5000)),
    ("bill", NoSecret, lambda town: town.bill("anna", -1)),
    ("pay", NoBill, lambda town: town.pay("anna", "bert", seal=5)),
    ("pay", NoWay, lambda town: town.pay("carl", "anna", seal=SEALS[1], amount=900)),
    ("give", NoLane, lambda town: town.give("anna", 9, 1)),
    ("step", NoLetter, lambda town: town.step("anna", "carl")),
    ("shut", NoLane, lambda town: town.shut("carl", 0)),
]


class TownTest(unittest.TestCase):
    def setUp(self):
        self.town = Town(wait=5, gap=2, fee=(1, 100))

    def come(self, words="carl anna bert", coins=1000):
        for hand in words.split():
            self.assertIsNone(self.town.come(hand, coins=coins))

    def line(self, words="anna bert carl", coins=200):
        """Lanes from each hand to the next one."""
        hands = words.split()
        self.come(words)
        return [self.town.lane(left, right, left_coins=coins, right_coins=coins)
                for left, right in zip(hands, hands[1:])]

    def everything(self):
        town = self.town
        hands = town.hands()
        lanes = sorted({lane for hand in hands for lane in town.lanes(hand)})
        return [hands, town.lying(), town.now(), town.told()] + [
            (town.purse(hand), town.surely(hand), town.receipts(hand), town.lanes(hand)) for hand in hands] + [
            town.state(lane) for lane in lanes]

    def assert_refused(self, kind, asked, *told, **named):
        before, trail = self.everything(), self.town.trail()
        with self.assertRaises(CoinError) as caught:
            asked(*told, **named)
        self.assertIs(type(caught.exception), kind)
        self.assertEqual(self.everything(), before)
        self.assertEqual(self.town.inside(), 0)
        word = asked.__name__
        marks = [("begun", word), ("ended", word)] if word in DEEDS else []
        self.assertEqual(self.town.trail(), trail + marks)

    def steps(self, words):
        for pair in words.split():
            self.assertIsNone(self.town.step(*pair.split("-")))


DEEDS = ("come", "lane", "bill", "pay", "give", "step", "rest", "turn", "shut")


class MadeTest(TownTest):
    def refused(self, kind, **named):
        with self.assertRaises(CoinError) as caught:
            Town(**named)
        self.assertIs(type(caught.exception), kind)

    def test_at_first(self):
        for town in (Town(), self.town):
            self.assertEqual((town.hands(), town.lying(), town.trail()), ([], [], []))
            self.assertEqual((town.now(), town.told(), town.inside()), (0, 0, 0))
            with self.assertRaises(NoLane):
                town.state(0)

    def test_refusals_in_their_order(self):
        for wait in NO_POSITIVE + [101, GREATEST]:
            self.refused(NoNumber, wait=wait)
            self.refused(NoNumber, wait=wait, fee=7)
        for gap in NO_POSITIVE + [51, GREATEST]:
            self.refused(NoNumber, gap=gap)
            self.refused(NoNumber, gap=gap, fee=7)
        for fee in NO_WHOLE + [7, (1,), [1, 10], (1, 1001), (-1, 0), (True, 0), (0, True)]:
            self.refused(NoFees, fee=fee)
        for named in ({"wait": 1, "gap": 50}, {"wait": 100, "gap": 1}, {"fee": (0, 1000)}, {"fee": (GREATEST, 0)}):
            Town(**named)

    def test_the_bounds_that_are_left_out(self):
        self.town = Town()
        self.line("anna bert carl")
        self.town.bill("carl", 7, amount=100)
        way = self.town.pay("anna", "carl", seal=S, amount=100)
        self.assertEqual(way, [(0, "anna", 100 + FEE[0] + FEE[1] * 100 // 1000), (1, "bert", 100)])
        self.assertEqual(self.town.lying()[0][2][0][3][4], 20 + GAP)
        self.town.shut("carl", 1)
        for turn in range(1, 7):
            self.assertEqual(self.town.purse("carl"), 800)
            self.town.turn()
        self.assertEqual(self.town.purse("carl"), 1000)


class ComeTest(TownTest):
    def test_hands_that_come(self):
        self.come("carl anna")
        self.town.come("bert")
        self.assertEqual(self.town.hands(), ["anna", "bert", "carl"])
        self.assertEqual([self.town.purse(hand) for hand in self.town.hands()], [1000, 0, 1000])
        self.assertEqual([self.town.surely(hand) for hand in self.town.hands()], [1000, 0, 1000])

    def test_thirty_hands(self):
        names = [chr(97 + place) for place in range(26)] + ["aa", "bb", "cc", "dd"]
        for coins, name in enumerate(names):
            self.town.come(name, coins=coins)
        self.assertEqual(self.town.hands(), sorted(names))
        self.assertEqual([self.town.purse(name) for name in names], list(range(30)))

    def test_refusals_in_their_order(self):
        self.come("anna")
        for name in NO_NAMES:
            self.assert_refused(NoName, self.town.come, name)
            self.assert_refused(NoName, self.town.come, name, coins=-1)
        self.assert_refused(Twice, self.town.come, "anna")
        self.assert_refused(Twice, self.town.come, "anna", coins=-1)
        for coins in NO_WHOLE:
            self.assert_refused(NoCoins, self.town.come, "bert", coins=coins)
        self.town.rest()
        for name in (None, "anna", "bert"):
            self.assert_refused(Begun, self.town.come, name, coins=-1)
            self.assert_refused(Begun, self.town.come, name)

    def test_begun_behind_each_other_deed(self):
        deeds = [
            lambda town: town.lane("anna", "bert", left_coins=1), lambda town: town.bill("anna", 7),
            lambda town: town.rest(), lambda town: town.turn(),
        ]
        for deed in deeds:
            self.setUp()
            self.come()
            self.town.come("dora")
            deed(self.town)
            self.assert_refused(Begun, self.town.come, "emil")

    def test_begun_behind_what_is_refused_it_is_not(self):
        self.come()
        refused = [
            lambda town: town.lane("anna", "emil"), lambda town: town.bill("anna", -1),
            lambda town: town.pay("anna", "bert", seal=S), lambda town: town.give("anna", 0, 1),
            lambda town: town.step("anna", "bert"), lambda town: town.shut("anna", 0), lambda town: town.come("anna"),
        ]
        for number, deed in enumerate(refused):
            self.assertRaises(CoinError, deed, self.town)
            self.town.come("dora" + "abcdefg"[number], coins=3)
        # What is only told is no deed.
        self.everything()
        self.town.come("emil")


class LaneTest(TownTest):
    def test_two_hands_open_lanes(self):
        self.come()
        self.assertEqual(self.town.lane("anna", "bert", left_coins=30, right_coins=20), 0)
        self.assertEqual(self.town.lane("bert", "anna", right_coins=5), 1)
        self.assertEqual(self.town.lane("carl", "anna", left_coins=7), 2)
        due = [(0, 0, 30, 20, ()), (1, 0, 0, 5, ()), (2, 0, 7, 0, ())]
        self.assertEqual([self.town.state(lane) for lane in range(3)], [(state, state) for state in due])
        self.assertEqual([self.town.lanes(hand) for hand in ("anna", "bert", "carl")], [[0, 1, 2], [0, 1], [2]])
        self.assertEqual([self.town.purse(hand) for hand in ("anna", "bert", "carl")], [965, 980, 993])
        self.assertEqual([self.town.surely(hand) for hand in ("anna", "bert", "carl")], [1000] * 3)

    def test_refusals_in_their_order(self):
        self.come()
        for hand in NO_HANDS:
            self.assert_refused(NoHand, self.town.lane, hand, "bert", left_coins=-1)
            self.assert_refused(NoHand, self.town.lane, "anna", hand, left_coins=5)
        self.assert_refused(NoHand, self.town.lane, "anna", "anna", left_coins=5)
        for coins in NO_WHOLE + [1001, GREATEST]:
            self.assert_refused(NoCoins, self.town.lane, "anna", "bert", left_coins=coins, right_coins=5)
            self.assert_refused(NoCoins, self.town.lane, "anna", "bert", left_coins=5, right_coins=coins)
        self.assert_refused(NoCoins, self.town.lane, "anna", "bert")
        self.assertEqual(self.town.lane("anna", "bert", left_coins=1000), 0)
        self.assert_refused(NoCoins, self.town.lane, "anna", "bert", left_coins=1)


class BillTest(TownTest):
    def test_it_tells_the_seal(self):
        self.come()
        self.assertEqual(self.town.bill("anna", 7, amount=5), S)
        self.assertEqual(self.town.bill("bert", 0), SEALS[0])
        self.assertEqual(self.town.bill("anna", FORTY, amount=FORTY), seal_of(FORTY))

    def test_refusals_in_their_order(self):
        self.come()
        self.town.bill("anna", 7)
        for hand in NO_HANDS:
            self.assert_refused(NoHand, self.town.bill, hand, None, amount=0)
        for secret in NO_WHOLE:
            self.assert_refused(NoSecret, self.town.bill, "bert", secret, amount=0)
        for amount in NO_POSITIVE:
            self.assert_refused(NoCoins, self.town.bill, "bert", 7, amount=amount)
            self.assert_refused(NoCoins, self.town.bill, "bert", 8, amount=amount)
        for hand in ("anna", "bert"):
            self.assert_refused(Twice, self.town.bill, hand, 7)
        self.assertEqual(self.town.bill("bert", 8), SEALS[8])


class PayTest(TownTest):
    def billed(self, payee, secret=7, amount=20):
        return self.town.bill(payee, secret, amount=amount)

    def test_over_one_lane(self):
        self.line()
        seal = self.billed("bert")
        self.assertEqual(self.town.pay("anna", "bert", seal=seal, amount=20, bound=9), [(0, "anna", 20)])
        letter = ("next", 0, 1, ("lock", "left", 20, seal, 9), ())
        self.assertEqual(self.town.lying(), [("anna", "bert", [letter])])
        self.assertEqual(self.town.rest(), 4)
        self.assertEqual(self.town.state(0), ((0, 2, 180, 220, ()),) * 2)
        self.assertEqual(self.town.receipts("anna"), [(seal, 7, 20)])

    def test_over_two_lanes_step_by_step(self):
        self.line()
        seal = self.billed("carl")
        way = self.town.pay("anna", "carl", seal=seal, amount=20, bound=9)
        self.assertEqual(way, [(0, "anna", 23), (1, "bert", 20)])
        first = ("next", 0, 1, ("lock", "left", 23, seal, 11), ((1, 20, 9),))
        self.assertEqual(self.town.lying(), [("anna", "bert", [first])])
        self.steps("anna-bert")
        onward = ("next", 1, 1, ("lock", "left", 20, seal, 9), ())
        self.assertEqual(self.town.lying(), [("bert", "anna", [("done", 0, 1)]), ("bert", "carl", [onward])])
        # Unlike at both ends between, alike at rest.
        left, right = self.town.state(0)
        self.assertEqual((left, right), ((0, 0, 200, 200, ()), (0, 1, 177, 200, ((1, "left", 23, seal, 11),))))
        self.steps("bert-carl")
        fold = ("next", 1, 2, ("fold", 1, 7), ())
        self.assertEqual(self.town.lying()[1], ("carl", "bert", [("done", 1, 1), fold]))
        self.steps("carl-bert")
        self.assertEqual(self.town.lying()[1], ("carl", "bert", [fold]))
        self.steps("carl-bert bert-anna bert-anna")
        self.assertEqual(self.town.state(0)[0], (0, 2, 177, 223, ()))
        self.assertEqual([self.town.surely(hand) for hand in ("anna", "bert", "carl")], [977, 1003, 1020])
        self.steps("anna-bert bert-carl")
        self.assertEqual((self.town.lying(), self.town.rest()), ([], 0))
        self.assertEqual([self.town.state(lane) for lane in (0, 1)],
                         [((0, 2, 177, 223, ()),) * 2, ((1, 2, 180, 220, ()),) * 2])
        self.assertEqual([self.town.receipts(hand) for hand in ("anna", "bert")], [[(seal, 7, 23)], []])
        self.assertEqual(self.town.told(), 0)

    def test_over_many_lanes(self):
        names = [chr(97 + place) for place in range(26)] + ["za", "zb", "zc", "zd"]
        self.line(" ".join(names), coins=300)
        for secret, (payer, payee) in enumerate([("a", "zd"), ("zd", "a"), ("c", "x")]):
            seal = self.billed(payee, secret, 5)
            way = self.town.pay(payer, payee, seal=seal, amount=5, bound=9)
            self.assertEqual(len(way), 29 if secret < 2 else 21)
            self.assertEqual((way[0][1], way[-1][2]), (payer, 5))
            while self.town.lying()[0][2][0][0] != "next":
                self.town.step(*self.town.lying()[0][:2])
            if payer == "a":
                letter = self.town.lying()[0][2][0]
                lasts = [letter[3][4]] + [last for _, _, last in letter[4]]
                self.assertEqual(lasts, [9 + 2 * place for place in range(len(way))][::-1])
            self.town.rest()
            self.assertEqual(self.town.receipts(payer)[-1], (seal, secret, way[0][2]))
        self.assertEqual((self.town.told(), self.town.lying()), (0, []))

    def test_lasts_by_bound_gap_and_turn(self):
        for gap, bound, turns in ((1, 1, 0), (2, 30, 0), (3, 5, 4), (2, GREATEST, 1)):
            self.town = Town(wait=9, gap=gap)
            self.line("anna bert carl dora")
            for _ in range(turns):
                self.town.turn()
            self.town.pay("anna", "dora", seal=self.billed("dora"), amount=20, bound=bound)
            letter = self.town.lying()[0][2][0]
            due = [turns + bound + 2 * gap, turns + bound + gap, turns + bound]
            self.assertEqual([letter[3][4]] + [last for _, _, last in letter[4]], due)

    def test_by_the_cheapest_way(self):
        self.come("anna bert carl dora")
        for left, right in (("anna", "bert"), ("bert", "dora"), ("anna", "carl"), ("dora", "carl")):
            self.town.lane(left, right, left_coins=50, right_coins=50)
        way = self.town.pay("anna", "dora", seal=self.billed("dora"), amount=20)
        # Of two ways that are alike, the lesser lane nearest to the payee.
        self.assertEqual(way, [(0, "anna", 23), (1, "bert", 20)])
        self.town.rest()
        way = self.town.pay("anna", "dora", seal=self.billed("dora", 8), amount=29, bound=9)
        self.assertEqual(way, [(2, "anna", 32), (3, "carl", 29)])

    def test_rooms_are_the_shares_at_the_own_ends(self):
        self.line("anna bert", coins=50)
        self.town.give("bert", 0, 30)
        self.town.rest()
        # Bert's end has not heard that anna gave 40: at hers it is pending.
        self.town.give("anna", 0, 40)
        self.assertEqual(self.town.state(0)[0][2:4], (80, 20))
        self.town.step("anna", "bert")
        self.assertEqual([state[2:4] for state in self.town.state(0)], [(80, 20), (40, 60)])
        self.assertEqual(self.town.pay("bert", "anna", seal=self.billed("anna"), amount=60), [(0, "bert", 60)])
        self.assertEqual(self.town.pay("anna", "bert", seal=self.billed("bert", 8), amount=80), [(0, "anna", 80)])
        self.assert_refused(NoWay, self.town.pay, "bert", "anna", seal=self.billed("anna", 9), amount=61)
        self.assert_refused(NoWay, self.town.pay, "anna", "bert", seal=self.billed("bert", 10), amount=81)

    def test_lanes_that_are_not_open_are_not_in_the_net(self):
        self.line("anna bert carl")
        self.town.shut("bert", 1)
        self.assert_refused(NoWay, self.town.pay, "anna", "carl", seal=self.billed("carl"), amount=20)
        for _ in range(5):
            self.town.turn()
        self.assert_refused(NoWay, self.town.pay, "anna", "carl", seal=S, amount=20)
        self.town.pay("anna", "bert", seal=self.billed("bert", 8), amount=20)

    def test_more_than_sixty_lanes_of_which_few_are_open(self):
        self.come("anna bert carl")
        for lane in range(64):
            self.town.lane("anna", "bert", left_coins=1, right_coins=1)
            if lane < 60:
                self.town.shut("bert", lane)
        self.assertEqual(self.town.pay("anna", "bert", seal=self.billed("bert")), [(60, "anna", 1)])

    def test_refusals_in_their_order(self):
        self.line("anna bert carl")
        seal, paid = self.billed("carl"), self.billed("carl", 8)
        self.town.pay("anna", "carl", seal=paid, amount=20)
        self.town.rest()
        pay = self.town.pay
        for hand in NO_HANDS:
            self.assert_refused(NoHand, pay, hand, "carl", seal=None, amount=0, bound=0)
            self.assert_refused(NoHand, pay, "anna", hand, seal=None, amount=0, bound=0)
        for hand in ("anna", "carl"):
            self.assert_refused(NoHand, pay, hand, hand, seal=None)
            self.assert_refused(NoHand, pay, hand, hand, seal=seal)
        for bad in NO_WHOLE:
            self.assert_refused(NoNumber, pay, "anna", "carl", seal=bad, amount=0, bound=0)
        for payee, other in (("carl", SEALS[9]), ("bert", seal), ("bert", paid), ("carl", FORTY)):
            self.assert_refused(NoBill, pay, "anna", payee, seal=other, amount=0, bound=0)
        for payer in ("anna", "bert"):
            self.assert_refused(Twice, pay, payer, "carl", seal=paid, amount=0, bound=0)
        for amount in NO_POSITIVE:
            self.assert_refused(NoCoins, pay, "anna", "carl", seal=seal, amount=amount, bound=0)
        for bound in NO_POSITIVE:
            self.assert_refused(NoNumber, pay, "anna", "carl", seal=seal, amount=500, bound=bound)
        self.assert_refused(NoWay, pay, "anna", "carl", seal=seal, amount=500)
        pay("anna", "carl", seal=seal, amount=20, bound=1)

    def test_then_as_the_keeper(self):
        self.line("bert anna")
        # Anna waits for her turn with all that she has there.
        self.town.give("anna", 0, 190)
        self.assert_refused(NoCoins, self.town.pay, "anna", "bert", seal=self.billed("bert"), amount=11)
        self.town.pay("anna", "bert", seal=S, amount=10)

    def test_refused_it_is_not_paid(self):
        self.line("anna bert")
        seal = self.billed("bert")
        self.assert_refused(NoWay, self.town.pay, "anna", "bert", seal=seal, amount=500)
        self.town.pay("anna", "bert", seal=seal, amount=20)
        self.assert_refused(Twice, self.town.pay, "anna", "bert", seal=seal, amount=20)

    def test_less_than_billed_goes_back(self):
        self.line("anna bert carl")
        self.town.pay("anna", "carl", seal=self.billed("carl", amount=21), amount=20)
        self.town.rest()
        self.assertEqual([self.town.surely(hand) for hand in self.town.hands()], [1000] * 3)
        self.assertEqual([state[0][2:] for state in (self.town.state(0), self.town.state(1))], [(200, 200, ())] * 2)

    def test_the_told_way_is_the_askers(self):
        self.line("anna bert carl")
        way = self.town.pay("anna", "carl", seal=self.billed("carl"), amount=20)
        before = self.town.lying()
        way.clear()
        self.assertEqual(self.town.lying(), before)
        self.town.rest()
        self.assertEqual(self.town.receipts("anna"), [(S, 7, 23)])


class GiveTest(TownTest):
    def test_a_gift(self):
        self.line("anna bert")
        self.assertIsNone(self.town.give("anna", 0, 30))
        self.assertEqual(self.town.lying(), [("anna", "bert", [("next", 0, 1, ("pay", "left", 30), ())])])
        self.assertEqual(self.town.rest(), 2)
        self.assertIsNone(self.town.give("anna", 0, 5))
        self.assertEqual(self.town.lying(), [("anna", "bert", [("turn", 0)])])
        self.assertEqual(self.town.rest(), 5)
        self.assertEqual(self.town.state(0), ((0, 3, 165, 235, ()),) * 2)
        self.assertEqual((self.town.surely("anna"), self.town.surely("bert")), (965, 1035))

    def test_refusals_in_their_order(self):
        self.line("anna bert carl")
        self.town.shut("bert", 1)
        for hand in NO_HANDS:
            self.assert_refused(NoHand, self.town.give, hand, 9, 0)
        for lane in NO_WHOLE + [1, 2, GREATEST]:
            self.assert_refused(NoLane, self.town.give, "anna", lane, 0)
        for amount in NO_POSITIVE:
            self.assert_refused(NoCoins, self.town.give, "bert", 1, amount)
        self.assert_refused(Settled, self.town.give, "bert", 1, 5000)
        self.assert_refused(NoCoins, self.town.give, "bert", 0, 201)
        self.town.give("bert", 0, 200)


class StepTest(TownTest):
    def test_refusals_in_their_order(self):
        self.line("anna bert")
        for hand in NO_HANDS:
            self.assert_refused(NoHand, self.town.step, hand, "bert")
            self.assert_refused(NoHand, self.town.step, "anna", hand)
        self.town.give("anna", 0, 5)
        for pair in (("bert", "anna"), ("anna", "anna"), ("bert", "bert")):
            self.assert_refused(NoLetter, self.town.step, *pair)
        self.town.step("anna", "bert")
        self.assert_refused(NoLetter, self.town.step, "anna", "bert")

    def test_the_first_letter_first(self):
        self.come("anna bert")
        for _ in range(3):
            self.town.lane("anna", "bert", left_coins=50)
        for lane in (2, 0, 1):
            self.town.give("anna", lane, 5)
        letters = [("next", lane, 1, ("pay", "left", 5), ()) for lane in (2, 0, 1)]
        for heard in range(3):
            self.assertEqual(self.town.lying()[0], ("anna", "bert", letters[heard:]))
            self.town.step("anna", "bert")
        self.assertEqual(self.town.lying(), [("bert", "anna", [("done", lane, 1) for lane in (2, 0, 1)])])

    def test_a_letter_that_is_refused_is_gone(self):
        self.line("anna bert carl")
        self.town.give("anna", 0, 5)
        self.town.give("bert", 1, 5)
        self.town.shut("carl", 1)
        self.assertIsNone(self.town.step("bert", "carl"))
        self.assertEqual(self.town.lying(), [("anna", "bert", [("next", 0, 1, ("pay", "left", 5), ())])])
        self.assertEqual(self.town.state(1)[1], (1, 0, 200, 200, ()))

    def test_a_lone_step_is_a_deed(self):
        self.line("anna bert")
        self.town.give("anna", 0, 5)
        trail = self.town.trail()
        self.town.step("anna", "bert")
        self.assertEqual(self.town.trail(), trail + [("begun", "step"), ("ended", "step")])


class RestTest(TownTest):
    def test_of_no_steps(self):
        self.assertEqual(self.town.rest(), 0)
        self.assertEqual(self.town.trail(), [("begun", "rest"), ("ended", "rest")])

    def test_the_order_in_which_it_hears(self):
        """A rest is the steps from the least name that writes, of its letters to the least."""
        towns = []
        for by_steps in (False, True):
            self.setUp()
            self.line("dora bert anna carl")
            self.town.lane("bert", "carl", left_coins=40, right_coins=40)
            for secret, (payer, payee) in enumerate([("dora", "carl"), ("carl", "anna"), ("anna", "dora")]):
                self.town.bill(payee, secret, amount=9)
                self.town.pay(payer, payee, seal=SEALS[secret], amount=9)
            self.town.give("bert", 0, 5)
            self.town.give("bert", 3, 5)
            many = 0
            if by_steps:
                while self.town.lying():
                    self.town.step(*self.town.lying()[0][:2])
                    many += 1
            else:
                many = self.town.rest()
            towns.append((many, self.everything()))
        self.assertEqual(towns[0], towns[1])
        self.assertGreater(towns[0][0], 15)

    def test_the_least_name_that_writes_and_of_these_the_least(self):
        self.come("anna bert carl dora")
        for left, right in (("carl", "bert"), ("carl", "anna"), ("bert", "dora")):
            self.town.lane(left, right, left_coins=50)
        for hand, lane in (("carl", 0), ("carl", 1), ("bert", 2)):
            self.town.give(hand, lane, 5)
        order = []
        while self.town.lying():
            pairs = [(hand, other) for hand, other, _ in self.town.lying()]
            self.assertEqual(pairs, sorted(pairs))
            order.append(pairs[0])
            self.town.step(*pairs[0])
        due = [("bert", "dora"), ("carl", "anna"), ("anna", "carl"), ("carl", "bert"), ("bert", "carl"),
               ("dora", "bert")]
        self.assertEqual(order, due)


class TurnTest(TownTest):
    def test_the_court_and_the_keepers(self):
        self.line("anna bert")
        self.town.bill("bert", 7, amount=20)
        self.town.pay("anna", "bert", seal=S, amount=20, bound=5)
        self.steps("anna-bert bert-anna")
        self.town.shut("anna", 0)
        for turn in range(1, 5):
            self.assertIsNone(self.town.turn())
            self.assertEqual((self.town.now(), self.town.purse("anna"), self.town.purse("bert")), (turn, 800, 800))
        # Bert showed the secret at his look at turn 4, as his lock is decided by turn 5.
        self.town.turn()
        self.assertEqual((self.town.purse("anna"), self.town.purse("bert")), (980, 1020))

    def test_all_keepers_wake_in_order_of_names(self):
        """A payee ahead of bert shows its secret to him in this very turn, one behind him does not."""
        for payee, turns in (("anna", 8), ("dora", 9)):
            self.setUp()
            self.line("carl bert " + payee)
            self.town.bill(payee, 7, amount=20)
            self.town.pay("carl", payee, seal=S, amount=20, bound=9)
            self.steps("carl-bert bert-" + payee)
            fold = ("next", 0, 2, ("fold", 1, 7), ())
            for turn in range(1, 11):
                self.town.turn()
                letters = [row[2] for row in self.town.lying() if row[:2] == ("bert", "carl")][0]
                self.assertEqual(fold in letters, turn >= turns, (payee, turn))

    def test_what_they_put_out_lies_behind_what_lies(self):
        self.line("anna bert")
        self.town.bill("bert", 7, amount=20)
        self.town.pay("anna", "bert", seal=S, amount=20, bound=4)
        self.town.step("anna", "bert")
        fold = ("next", 0, 2, ("fold", 1, 7), ())
        self.assertEqual(self.town.lying(), [("bert", "anna", [("done", 0, 1), fold])])
        self.town.step("bert", "anna")
        for _ in range(5):
            self.town.turn()
        # The secret was shown in time, so the fold is taken late.
        self.assertEqual(self.town.rest(), 2)
        self.assertEqual(self.town.state(0), ((0, 2, 180, 220, ()),) * 2)

    def test_dead_locks_go_back(self):
        self.line("anna bert carl")
        self.town.bill("carl", 7, amount=20)
        self.town.pay("anna", "carl", seal=S, amount=20, bound=3)
        self.town.step("anna", "bert")
        self.town.step("bert", "anna")
        for _ in range(6):
            self.town.turn()
        due = [("anna", "bert", [("turn", 0)]), ("bert", "anna", [("next", 0, 2, ("drop", 1), ())]),
               ("bert", "carl", [("next", 1, 1, ("lock", "left", 20, S, 3), ())])]
        self.assertEqual(self.town.lying(), due)
        self.town.rest()
        self.assertEqual([self.town.surely(hand) for hand in self.town.hands()], [1000] * 3)
        self.assertEqual([self.town.state(lane)[0][2:] for lane in (0, 1)], [(200, 200, ())] * 2)


class ShutTest(TownTest):
    def test_settled_with_locks_held(self):
        self.line("anna bert carl")
        self.town.bill("carl", 7, amount=20)
        self.town.pay("anna", "carl", seal=S, amount=20, bound=9)
        self.steps("anna-bert bert-anna bert-carl carl-bert")
        self.assertIsNone(self.town.shut("bert", 1))
        self.town.shut("anna", 0)
        self.assertEqual(self.town.told(), 2)
        for _ in range(5):
            self.town.turn()
        self.assertEqual([self.town.purse(hand) for hand in self.town.hands()], [977, 980, 1000])
        self.assertEqual([self.town.surely(hand) for hand in self.town.hands()], [977, 1000, 1020])
        for _ in range(8):
            self.town.turn()
        self.assertEqual([self.town.purse(hand) for hand in self.town.hands()], [977, 1003, 1020])
        self.assertEqual([self.town.surely(hand) for hand in self.town.hands()], [977, 1003, 1020])
        self.assertEqual(self.town.receipts("anna"), [(S, 7, 23)])

    def test_an_old_state_is_answered(self):
        self.line("anna bert")
        self.town.give("bert", 0, 30)
        self.steps("bert-anna anna-bert bert-anna bert-anna")
        # Bert's end does not know yet that anna took it.
        self.assertEqual([state[1] for state in self.town.state(0)], [2, 1])
        self.town.shut("bert", 0)
        self.town.turn()
        self.assertEqual(self.town.told(), 2)
        for _ in range(5):
            self.town.turn()
        self.assertEqual((self.town.purse("anna"), self.town.purse("bert")), (1030, 970))

    def test_refusals_in_their_order(self):
        self.line("anna bert carl")
        for hand in NO_HANDS:
            self.assert_refused(NoHand, self.town.shut, hand, 0)
            self.assert_refused(NoHand, self.town.shut, hand, 9)
        for lane in NO_WHOLE + [1, 2, GREATEST]:
            self.assert_refused(NoLane, self.town.shut, "anna", lane)
        self.town.shut("anna", 0)
        for hand in ("anna", "bert"):
            self.assert_refused(Old, self.town.shut, hand, 0)
        for _ in range(5):
            self.town.turn()
        for hand in ("anna", "bert"):
            self.assert_refused(Settled, self.town.shut, hand, 0)


class TellTest(TownTest):
    def test_refusals(self):
        self.line("anna bert")
        for hand in NO_HANDS:
            for asked in (self.town.purse, self.town.surely, self.town.receipts, self.town.lanes):
                self.assert_refused(NoHand, asked, hand)
        for lane in NO_WHOLE + [1, GREATEST, FORTY]:
            self.assert_refused(NoLane, self.town.state, lane)

    def test_a_state_is_the_left_ends_ahead_of_the_right_ends(self):
        self.line("carl anna")
        self.town.give("carl", 0, 5)
        self.town.step("carl", "anna")
        self.assertEqual(self.town.state(0), ((0, 0, 200, 200, ()), (0, 1, 195, 205, ())))
        self.assertIs(type(self.town.state(0)), tuple)

    def test_what_lies_by_names(self):
        self.come("anna bert carl")
        for left, right in (("carl", "anna"), ("bert", "carl"), ("anna", "bert"), ("carl", "bert"), ("carl", "bert")):
            self.town.lane(left, right, left_coins=9, right_coins=9)
        for hand, lane in (("carl", 4), ("carl", 0), ("bert", 1), ("anna", 2), ("carl", 3), ("bert", 3)):
            self.town.give(hand, lane, 1)
        pay = [("next", lane, 1, ("pay", "left", 1), ()) for lane in range(5)]
        due = [("anna", "bert", [pay[2]]), ("bert", "carl", [pay[1], ("turn", 3)]), ("carl", "anna", [pay[0]]),
               ("carl", "bert", [pay[4], pay[3]])]
        self.assertEqual(self.town.lying(), due)

    def test_told_counts_states_that_others_tell(self):
        self.line("anna bert carl")
        self.assertEqual(self.town.told(), 0)
        self.town.shut("anna", 0)
        self.town.shut("carl", 1)
        self.assertEqual(self.town.told(), 2)

    def test_told_lists_are_the_askers(self):
        self.line("anna bert")
        self.town.bill("bert", 7, amount=5)
        self.town.pay("anna", "bert", seal=S, amount=5)
        self.town.rest()
        self.town.give("anna", 0, 5)
        asked = [self.town.hands, self.town.lying, self.town.trail] + [
            lambda tell=tell: tell("anna") for tell in (self.town.receipts, self.town.lanes)]
        for tell in asked:
            one, other = tell(), tell()
            self.assertTrue(one)
            self.assertEqual((type(one), one), (list, other))
            one.append(7)
            one.reverse()
            self.assertEqual(tell(), other)
        self.town.lying()[0][2].clear()
        self.assertEqual(len(self.town.lying()[0][2]), 1)
        self.town.rest()


class TrailTest(TownTest):
    def test_two_rows_for_each_deed(self):
        self.line("anna bert")
        self.town.bill("bert", 7)
        self.town.pay("anna", "bert", seal=S)
        self.town.step("anna", "bert")
        self.town.rest()
        self.town.give("anna", 0, 5)
        self.town.turn()
        self.town.rest()
        self.town.shut("bert", 0)
        words = ["come", "come", "lane", "bill", "pay", "step", "rest", "give", "turn", "rest", "shut"]
        due = [(mark, word) for word in words for mark in ("begun", "ended")]
        self.assertEqual(self.town.trail(), due)
        self.everything()
        self.assertEqual((self.town.trail(), self.town.inside()), (due, 0))

    def test_refused_deeds_too(self):
        self.line("anna bert carl")
        self.town.bill("anna", 1)
        for word, kind, deed in REFUSED:
            trail = self.town.trail()
            with self.assertRaises(kind) as caught:
                deed(self.town)
            self.assertIs(type(caught.exception), kind)
            self.assertEqual(self.town.trail(), trail + [("begun", word), ("ended", word)])
            self.assertEqual(self.town.inside(), 0)
        self.assertEqual(self.town.rest(), 0)

    def test_what_breaks_a_deed_in_its_middle(self):
        """Also things of no kind that is told of leave the town open."""
        self.line("anna bert")

        class Odd:
            def __hash__(self):
                raise RuntimeError

        for word, deed in (("come", lambda: self.town.come(Odd(), coins=Odd())),
                           ("bill", lambda: self.town.bill("anna", Odd())),
                           ("give", lambda: self.town.give("anna", Odd(), Odd())),
                           ("step", lambda: self.town.step(Odd(), Odd()))):
            trail = self.town.trail()
            with self.assertRaises(Exception):
                deed()
            self.assertEqual(self.town.trail(), trail + [("begun", word), ("ended", word)])
            self.assertEqual(self.town.inside(), 0)

    def test_two_towns_by_turns(self):
        one, other = Town(wait=5), Town(wait=6)
        for town in (one, other):
            town.come("anna", coins=100)
            town.come("bert", coins=100)
        self.assertEqual(one.lane("anna", "bert", left_coins=50), 0)
        self.assertEqual(other.lane("bert", "anna", left_coins=60), 0)
        other.bill("anna", 7, amount=9)
        self.assertEqual(one.bill("bert", 7, amount=8), S)
        one.pay("anna", "bert", seal=S, amount=8)
        self.assertEqual((one.lying() == [], other.lying()), (False, []))
        other.turn()
        self.assertEqual((one.now(), other.now(), other.rest()), (0, 1, 0))
        one.rest()
        self.assertEqual((one.surely("bert"), other.surely("bert")), (108, 100))
        self.assertEqual((one.receipts("anna"), other.receipts("anna")), ([(S, 7, 8)], []))
        self.assertEqual(len(other.trail()), 2 * 6)


class InterfaceTest(unittest.TestCase):
    def test_names_and_arguments(self):
        self.assertEqual(Town.__module__, "coinlanes.towns")
        self.assertEqual(str(inspect.signature(Town)), "(*, wait=6, gap=2, fee=(1, 10))")
        due = {
            "come": "(self, hand, *, coins=0)", "lane": "(self, left, right, *, left_coins=0, right_coins=0)",
            "bill": "(self, hand, secret, *, amount=1)",
            "pay": "(self, payer, payee, *, seal, amount=1, bound=20)", "give": "(self, hand, lane, amount)",
            "step": "(self, hand, other)", "turn": "(self)", "shut": "(self, hand, lane)", "rest": "(self)",
            "hands": "(self)", "receipts": "(self, hand)", "lanes": "(self, hand)", "lying": "(self)",
            "trail": "(self)", "purse": "(self, hand)", "surely": "(self, hand)", "now": "(self)", "told": "(self)",
            "inside": "(self)", "state": "(self, lane)",
        }
        for word, arguments in due.items():
            self.assertIn(word, vars(Town))
            self.assertEqual(str(inspect.signature(vars(Town)[word])), arguments)


if __name__ == "__main__":
    unittest.main()
