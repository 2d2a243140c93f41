"""Points 23, 28, 29 and 30: how a keeper is made, its own deeds, and what it tells."""

import inspect
import random
import unittest

from coinlanes.bounds import FEE, GAP
from coinlanes.courts import Court
from coinlanes.errors import (
    CoinError, NoCoins, NoFees, NoHand, NoHops, NoLane, NoName, NoNumber, NoPaper, NoSecret, NotSigned, NotYours, Old, Settled,
    Twice)
from coinlanes.keepers import Keeper
from coinlanes.seals import seal_of
from coinlanes.signs import Signs
from things import ANY, FORTY, GREATEST, NO_NAMES, NO_POSITIVE, NO_WHOLE, KeeperTest, with_part

SEALS = [seal_of(secret) for secret in range(60)]
S = SEALS[7]
NO_FEE = NO_WHOLE + [(1,), (1, 2, 3), [1, 10], (1, 1001), (True, 10), (1, False), (-1, 0), (0, -1), {"anna": (1, 10)}]
PAPER = ("open", 3, "anna", "bert", 5, 0)


class MadeTest(unittest.TestCase):
    def setUp(self):
        self.signs = Signs()
        self.court = Court(self.signs, purses=(("anna", 40), ("bert", 50)))

    def assert_refused(self, kind, *told, **named):
        with self.assertRaises(CoinError) as caught:
            Keeper(*told, **named)
        self.assertIs(type(caught.exception), kind)

    def test_refusals_in_their_order(self):
        for name in NO_NAMES:
            self.assert_refused(NoName, name, self.court, self.signs, gap=0, fee=0)
        for name in ("carl", "ann", "a"):
            self.assert_refused(NoHand, name, self.court, self.signs, gap=0, fee=0)
        for gap in NO_POSITIVE + [51, GREATEST, FORTY, "2", (2,)]:
            self.assert_refused(NoNumber, "anna", self.court, self.signs, gap=gap)
            self.assert_refused(NoNumber, "anna", self.court, self.signs, gap=gap, fee=0)
        for fee in NO_FEE:
            self.assert_refused(NoFees, "anna", self.court, self.signs, fee=fee)

    def test_at_the_edges(self):
        for gap in (1, 2, 49, 50):
            for fee in ((0, 0), (0, 1000), (GREATEST, 1), (1, 10)):
                keeper = Keeper("bert", self.court, self.signs, gap=gap, fee=fee)
                self.assertEqual(keeper.name(), "bert")
        self.assertEqual((GAP, FEE), (2, (1, 10)))

    def test_what_it_tells_at_first(self):
        keeper = Keeper("anna", self.court, self.signs)
        self.assertEqual((keeper.name(), keeper.lanes(), keeper.receipts()), ("anna", [], []))
        self.assertEqual((keeper.waiting(), keeper.surely(), keeper.wake()), (0, 40, []))
        self.assertIsNone(keeper.secret(S))
        for asked in (keeper.newest, keeper.pending):
            with self.assertRaises(NoLane):
                asked(0)
        self.assertEqual((self.court.rows(), self.signs.papers("anna")), ([], []))

    def test_a_court_of_many_lanes(self):
        signs = Signs()
        court = Court(signs, purses=tuple((hand, 100000) for hand in ("anna", "bert", "carl", "dora")))
        early = Keeper("anna", court, signs)
        chance, due = random.Random(2), []
        for number in range(300):
            left, right = chance.sample(["anna", "bert", "carl", "dora"], 2)
            for hand in (left, right):
                signs.sign(hand, ("open", number, left, right, 1, number))
            court.lane(left, right, left_coins=1, right_coins=number)
            due += [number] if "anna" in (left, right) else []
            self.assertEqual(early.lanes(), due)
        late = Keeper("anna", court, signs)
        for keeper in (early, late):
            self.assertEqual(keeper.lanes(), due)
            self.assertEqual([keeper.newest(lane) for lane in due], [(lane, 0, 1, lane, ()) for lane in due])
            self.assertEqual(keeper.wake(), [])


class LanesTest(KeeperTest):
    def test_lanes_opened_later_are_its_at_once(self):
        self.assertEqual(self.keeper.lanes(), [])
        self.assertEqual(self.lane("bert", "anna", 30, 20), 0)
        self.assertEqual(self.keeper.newest(0), (0, 0, 30, 20, ()))
        paper = ("open", 1, "carl", "bert", 5, 5)
        self.sign_all(paper)
        self.court.lane("carl", "bert", left_coins=5, right_coins=5)
        self.lane("anna", "carl", 7, 0)
        self.assertEqual((self.keeper.lanes(), self.keeper.newest(2)), ([0, 2], (2, 0, 7, 0, ())))
        for lane in (1, 3):
            for asked in (self.keeper.newest, self.keeper.pending):
                self.assert_refused(NoLane, asked, lane)
        self.assertEqual(self.keeper.surely(), 1000)

    def test_each_way_of_asking_finds_a_new_lane(self):
        asked = [
            lambda keeper: keeper.lanes(), lambda keeper: keeper.newest(0), lambda keeper: keeper.pending(0),
            lambda keeper: keeper.surely(), lambda keeper: keeper.wake(), lambda keeper: keeper.give(0, 1),
            lambda keeper: keeper.pay(((0, 1, 9),), seal=S), lambda keeper: keeper.shut(0),
            lambda keeper: keeper.hear("bert", ("turn", 0)),
        ]
        due = [[0], (0, 0, 10, 5, ()), None, 1000, []] + [
            [("bert", ("next", 0, 1, ("pay", "left", 1), ()))],
            [("bert", ("next", 0, 1, ("lock", "left", 1, S, 9), ()))], [], [("bert", ("next", 0, 1, ("pass",), ()))]]
        for question, answer in zip(asked, due):
            self.setUp()
            self.lane("anna", "bert", 10, 5)
            self.assertEqual(question(self.keeper), answer)

    def test_a_keeper_made_late(self):
        """Also of a lane that is closing or settled with a later state the first state is the newest one."""
        self.court.show(3)
        self.lane("bert", "anna", 30, 20)
        self.court.turn()
        self.lane("anna", "carl", 8, 9)
        self.court.tell((1, 0, 8, 9, ()))
        told = self.sign_all((0, 4, 10, 36, ((2, "left", 4, S, 9),)))
        self.court.tell(told)
        keeper = Keeper("anna", self.court, self.signs)
        self.assertEqual([keeper.newest(lane) for lane in keeper.lanes()], [(0, 0, 30, 20, ()), (1, 0, 8, 9, ())])
        self.assertEqual(keeper.surely(), 972 + 20 + 8)
        for _ in range(self.WAIT):
            self.court.turn()
        self.assertEqual(self.court.stand(0)[0], "settled")
        keeper = Keeper("anna", self.court, self.signs)
        self.assertEqual((keeper.lanes(), keeper.newest(0), keeper.pending(0)), ([0, 1], (0, 0, 30, 20, ()), None))
        self.assertEqual(keeper.surely(), 972 + 36 + 8)

    def test_no_lane_of_anything(self):
        self.lane("bert", "anna")
        self.lane("anna", "bert")
        for lane in NO_WHOLE + [2, 7, GREATEST, FORTY, "0", (0,)]:
            self.assert_refused(NoLane, self.keeper.newest, lane)
            self.assert_refused(NoLane, self.keeper.pending, lane)

    def test_told_lists_are_the_askers(self):
        self.lane("anna", "bert")
        self.keeper.pay(((0, 5, 9),), seal=S)
        self.accept(0)
        self.court.show(7)
        for asked, due in ((self.keeper.lanes, [0]), (self.keeper.receipts, [(S, 7, 5)]), (self.keeper.wake, [])):
            one, other = asked(), asked()
            self.assertIsNot(one, other)
            self.assertEqual((type(one), one), (list, due))
            one.append(7)
            one.reverse()
            self.assertEqual((other, asked()), (due, due))
        letters = self.keeper.hear("bert", self.letter(0, ("pass",)))
        letters.append(7)
        letters.clear()
        self.assertEqual(self.keeper.wake(), [])


class AgreeTest(KeeperTest):
    def test_papers_in_which_its_name_stands(self):
        for paper in (PAPER, ("open", 0, "bert", "anna", 0, 1), ("open", FORTY, "anna", "a", FORTY, FORTY)):
            self.assertIsNone(self.keeper.agree(paper))
            self.assertIs(self.signs.signed("anna", paper), True)
            self.keeper.agree(paper)
        self.assertEqual(len(self.signs.papers("anna")), 3)
        self.assertEqual(self.signs.papers("bert"), [])

    def test_of_others(self):
        for left, right in (("bert", "carl"), ("ann", "annaa"), ("dora", "bert")):
            self.assert_refused(NotYours, self.keeper.agree, ("open", 0, left, right, 1, 1))

    def test_what_is_no_opening_paper(self):
        bad = ANY + [(0, 0, 5, 5, ()), PAPER[:5], PAPER + (0,), list(PAPER), ("open", 0, "bert", "carl", 0, 0)]
        bad += [with_part(PAPER, 0, word) for word in ("Open", "", None, b"open", "turn")]
        bad += [with_part(PAPER, place, part) for place in (1, 4, 5) for part in NO_WHOLE]
        bad += [with_part(PAPER, place, part) for place in (2, 3) for part in NO_NAMES]
        bad += [("open", 0, "anna", "anna", 1, 1), ("open", 0, "anna", "bert", 0, 0)]
        for paper in bad:
            self.assert_refused(NoPaper, self.keeper.agree, paper)

    def test_it_is_no_look(self):
        lane = self.lane("bert", "anna")
        self.propose(lane, ("pay", "left", 3))
        self.court.tell((lane, 0, 100, 100, ()))
        rows = self.court.rows()
        self.keeper.agree(PAPER)
        self.assertEqual(self.court.rows(), rows)


class BillTest(KeeperTest):
    def test_it_tells_the_seal_and_knows_the_secret(self):
        for secret, amount in ((7, 1), (0, GREATEST), (FORTY, FORTY)):
            self.assertIsNone(self.keeper.secret(seal_of(secret)))
            self.assertEqual(self.keeper.bill(secret, amount=amount), seal_of(secret))
            self.assertEqual(self.keeper.secret(seal_of(secret)), secret)
        self.assertEqual(self.keeper.bill(8), SEALS[8])

    def test_the_amount_is_one_where_it_is_left_out(self):
        self.keeper.bill(8)
        lane = self.lane("bert", "anna")
        self.assertEqual(self.offer(lane, 1, SEALS[8], 20), [("bert", ("next", 0, 2, ("fold", 1, 8), ()))])

    def test_refusals_in_their_order(self):
        self.keeper.bill(7)
        for secret in NO_WHOLE:
            self.assert_refused(NoSecret, self.keeper.bill, secret)
            self.assert_refused(NoSecret, self.keeper.bill, secret, amount=0)
        for amount in NO_POSITIVE:
            self.assert_refused(NoCoins, self.keeper.bill, 8, amount=amount)
            self.assert_refused(NoCoins, self.keeper.bill, 7, amount=amount)
        self.assert_refused(Twice, self.keeper.bill, 7)
        self.assert_refused(Twice, self.keeper.bill, 7, amount=9)

    def test_twice_where_the_secret_is_known(self):
        lane = self.lane("anna", "bert")
        self.keeper.pay(((lane, 5, 20),), seal=S)
        self.accept(lane)
        self.propose(lane, ("fold", 1, 7))
        self.assert_refused(Twice, self.keeper.bill, 7)
        self.court.show(8)
        self.assert_refused(Twice, self.keeper.bill, 8)
        self.keeper.bill(9)

    def test_twice_where_a_lock_under_the_seal_may_count(self):
        lane = self.lane("anna", "bert")
        self.keeper.pay(((lane, 5, 20),), seal=S)
        self.assert_refused(Twice, self.keeper.bill, 7)
        self.keeper.bill(8)
        self.accept(lane)
        self.assert_refused(Twice, self.keeper.bill, 7)
        self.propose(lane, ("drop", 1))
        self.assertEqual(self.keeper.bill(7), S)

    def test_twice_also_for_a_lock_for_its_side(self):
        lane = self.lane("bert", "anna")
        self.offer(lane, 5, S, 20)
        # It wants to drop the lock, but bert has not taken that, nor would it help if he did.
        self.assertEqual(self.keeper.pending(lane)[4], ())
        self.assert_refused(Twice, self.keeper.bill, 7)
        self.accept(lane)
        self.assertEqual(self.keeper.bill(7), S)

    def test_twice_of_lanes_that_are_closing_and_settled(self):
        lane = self.lane("anna", "bert")
        self.keeper.pay(((lane, 5, 20),), seal=S)
        self.court.tell((lane, 0, 100, 100, ()))
        self.assert_refused(Twice, self.keeper.bill, 7)
        self.turns(self.WAIT)
        self.assertEqual(self.court.stand(lane)[0], "settled")
        self.assertEqual((self.keeper.pending(lane)[4] != (), self.court.held()), (True, []))
        self.assert_refused(Twice, self.keeper.bill, 7)

    def test_twice_where_the_court_holds_a_lock(self):
        lane = self.lane("anna", "bert")
        # Signed and told by stealth: a keeper would not know of this lock but by the court.
        self.court.tell(self.sign_all((lane, 9, 90, 100, ((1, "left", 10, S, 7),))))
        for _ in range(self.WAIT):
            self.court.turn()
        self.assertEqual(len(self.court.held()), 1)
        with self.assertRaises(Twice):
            self.keeper.bill(7)
        self.assertEqual(self.keeper.newest(lane), (lane, 0, 100, 100, ()))
        self.assert_refused(Twice, self.keeper.bill, 7)
        self.keeper.bill(8)
        for _ in range(3):
            self.court.turn()
        self.assertEqual(self.court.held(), [])
        self.assertEqual(self.keeper.bill(7), S)

    def test_a_lock_of_a_lane_of_others_is_no_hindrance(self):
        paper = ("open", 0, "carl", "bert", 50, 50)
        self.sign_all(paper)
        self.court.lane("carl", "bert", left_coins=50, right_coins=50)
        self.court.tell(self.sign_all((0, 1, 45, 50, ((1, "left", 5, S, 30),))))
        for _ in range(self.WAIT):
            self.court.turn()
        self.assertEqual(len(self.court.held()), 1)
        self.assertEqual(self.keeper.bill(7), S)

    def test_it_is_no_look(self):
        lane = self.lane("bert", "anna")
        self.propose(lane, ("pay", "left", 3))
        self.court.tell((lane, 0, 100, 100, ()))
        self.keeper.bill(7)
        self.assertEqual(self.court.stand(lane)[4][1], 0)
        self.keeper.wake()
        self.assertEqual(self.court.stand(lane)[4][1], 1)


class PayTest(KeeperTest):
    def test_proposed_at_once(self):
        lane = self.lane("anna", "bert")
        hops = ((lane, 30, 9), (7, 25, 7), (5, 20, 5))
        due = [("bert", ("next", 0, 1, ("lock", "left", 30, S, 9), hops[1:]))]
        self.assertEqual(self.keeper.pay(hops, seal=S), due)
        self.assertEqual((self.keeper.waiting(), self.keeper.surely()), (0, 970))
        self.accept(lane)
        self.assertEqual(self.keeper.newest(lane), (0, 1, 70, 100, ((1, "left", 30, S, 9),)))

    def test_asked_for_where_the_other_side_proposes(self):
        lane = self.lane("bert", "anna")
        self.assertEqual(self.keeper.pay(((lane, 30, 9),), seal=S), [("bert", ("turn", 0))])
        self.assertEqual((self.keeper.waiting(), self.keeper.surely()), (1, 1000))
        # Once for each newest state.
        self.assertEqual(self.keeper.wake() + self.keeper.give(lane, 3) + self.turns(2), [])
        due = ("bert", ("next", 0, 2, ("lock", "right", 30, S, 9), ()))
        self.assertIn(self.propose(lane, ("pass",)), ([due], [("bert", ("next", 0, 2, ("pay", "right", 3), ()))]))

    def test_refusals_in_their_order(self):
        self.lane("anna", "bert")
        self.lane("anna", "carl")
        self.keeper.shut(1)
        for _ in range(3):
            self.court.turn()
        self.keeper.wake()
        self.keeper.pay(((0, 5, 20),), seal=S)
        hop = (0, 5, 20)
        bad = ANY + [[hop], (list(hop),), hop, (hop, ()), (hop, None), (hop[:2],), (hop + (1,),), ((hop,),), ()]
        bad += [(with_part(hop, 1, part),) for part in NO_POSITIVE]
        bad += [(hop, with_part(hop, place, part)) for place in (0, 2) for part in NO_WHOLE]
        for hops in bad:
            self.assert_refused(NoHops, self.keeper.pay, hops, seal=None)
            self.assert_refused(NoHops, self.keeper.pay, hops, seal=S)
        for seal in NO_WHOLE:
            self.assert_refused(NoNumber, self.keeper.pay, ((9, 5000, 0),), seal=seal)
        for hops in ((hop,), ((9, 5000, 0),), (hop, hop)):
            self.assert_refused(Twice, self.keeper.pay, hops, seal=S)
        for lane in (2, 9, GREATEST):
            self.assert_refused(NoLane, self.keeper.pay, ((lane, 5000, 0),), seal=5)
        self.assert_refused(Settled, self.keeper.pay, ((1, 5000, 0),), seal=5)
        for last in (0, 2, 3):
            self.assert_refused(Old, self.keeper.pay, ((0, 5000, last),), seal=5)
        self.assert_refused(NoCoins, self.keeper.pay, ((0, 101, 4),), seal=5)
        self.keeper.pay(((0, 100, 4),), seal=5)

    def test_a_seal_that_was_refused_is_not_paid(self):
        lane = self.lane("anna", "bert")
        for hops in (((9, 1, 9),), ((lane, 1, 0),), ((lane, 500, 9),)):
            with self.assertRaises(CoinError):
                self.keeper.pay(hops, seal=S)
        self.assertEqual(len(self.keeper.pay(((lane, 1, 9),), seal=S)), 1)

    def test_settled_also_while_closing(self):
        lane = self.lane("anna", "bert")
        self.keeper.shut(lane)
        self.assert_refused(Settled, self.keeper.pay, ((lane, 5, 20),), seal=S)
        self.turns(self.WAIT)
        self.assert_refused(Settled, self.keeper.pay, ((lane, 5, 20),), seal=S)

    def test_forty_hops(self):
        lane = self.lane("anna", "bert")
        hops = tuple((lane, 90 - place, 90 - place) for place in range(40))
        self.assertEqual(self.keeper.pay(hops, seal=S)[0][1][4], hops[1:])

    def test_what_waits_there_is_counted(self):
        lane, other = self.lane("bert", "anna"), self.lane("carl", "anna")
        self.keeper.pay(((lane, 60, 9),), seal=1)
        self.assert_refused(NoCoins, self.keeper.pay, ((lane, 41, 9),), seal=2)
        self.assert_refused(NoCoins, self.keeper.give, lane, 41)
        self.keeper.give(lane, 30)
        self.assert_refused(NoCoins, self.keeper.pay, ((lane, 11, 9),), seal=2)
        self.keeper.pay(((other, 100, 9),), seal=2)
        self.keeper.pay(((lane, 10, 9),), seal=3)
        self.assertEqual(self.keeper.waiting(), 4)
        self.assert_refused(NoCoins, self.keeper.give, lane, 1)

    def test_what_is_pending_waits_no_more(self):
        lane = self.lane("anna", "bert")
        self.keeper.pay(((lane, 60, 9),), seal=1)
        self.assertEqual(self.keeper.give(lane, 100), [])
        self.assertEqual(self.keeper.waiting(), 1)

    def test_twice_though_it_was_forgotten(self):
        lane = self.lane("bert", "anna")
        self.keeper.pay(((lane, 5, 1),), seal=S)
        self.turns(1)
        self.assertEqual(self.keeper.waiting(), 0)
        self.assert_refused(Twice, self.keeper.pay, ((lane, 5, 9),), seal=S)


class GiveTest(KeeperTest):
    def test_proposed(self):
        lane = self.lane("anna", "bert")
        self.assertEqual(self.keeper.give(lane, 30), [("bert", ("next", 0, 1, ("pay", "left", 30), ()))])
        self.assertEqual((self.keeper.waiting(), self.keeper.surely()), (0, 970))
        self.assertEqual(self.accept(lane), [])
        self.assertEqual(self.keeper.newest(lane), (0, 1, 70, 130, ()))

    def test_likes_of_the_same_amount(self):
        lane = self.lane("bert", "anna")
        for _ in range(3):
            self.keeper.give(lane, 30)
        self.assertEqual(self.keeper.waiting(), 3)
        for waiting in (2, 1, 0):
            self.assertEqual(self.propose(lane, ("pass",))[0][1][3], ("pay", "right", 30))
            self.assertEqual(self.keeper.waiting(), waiting)
            self.accept(lane)
        self.assertEqual(self.keeper.newest(lane)[2:4], (190, 10))

    def test_refusals_in_their_order(self):
        self.lane("anna", "bert")
        self.lane("anna", "carl")
        self.keeper.shut(1)
        for lane in NO_WHOLE + [2, GREATEST]:
            self.assert_refused(NoLane, self.keeper.give, lane, 5)
            self.assert_refused(NoLane, self.keeper.give, lane, 0)
        for amount in NO_POSITIVE:
            self.assert_refused(NoCoins, self.keeper.give, 0, amount)
            self.assert_refused(NoCoins, self.keeper.give, 1, amount)
        self.assert_refused(Settled, self.keeper.give, 1, 5)
        self.assert_refused(Settled, self.keeper.give, 1, 5000)
        self.assert_refused(NoCoins, self.keeper.give, 0, 101)
        self.assertEqual(len(self.keeper.give(0, 100)), 1)


class WaitTest(KeeperTest):
    def thirty(self, lane):
        """Thirty locks of anna's on a lane, and it is her turn."""
        for seal in range(1, 31):
            self.keeper.pay(((lane, 1, 40),), seal=seal)
            self.accept(lane)
            self.pass_on(lane)
        self.assertEqual(len(self.keeper.newest(lane)[4]), 30)

    def test_a_pay_waits_while_thirty_locks_are_there(self):
        lane = self.lane("anna", "bert")
        self.thirty(lane)
        self.assertEqual(self.keeper.pay(((lane, 5, 40),), seal=S), [])
        self.assertEqual(self.keeper.waiting(), 1)
        # It is not wanted there: no turn is put out for it.
        self.assertEqual(self.pass_on(lane), [])
        self.assertEqual(self.keeper.wake(), [])
        # A gift is.
        self.assertEqual(self.keeper.give(lane, 5), [("bert", ("turn", lane))])
        self.assertEqual(self.propose(lane, ("pass",))[0][1][3], ("pay", "left", 5))
        self.assertEqual(self.accept(lane), [])
        told = self.propose(lane, ("drop", 1))
        self.assertEqual(told[0][1][3], ("lock", "left", 5, S, 40))
        self.assertEqual(self.keeper.waiting(), 0)

    def test_forgotten_where_the_lane_is_open_no_more(self):
        lane, other = self.lane("bert", "anna"), self.lane("carl", "anna")
        self.keeper.pay(((lane, 5, 9),), seal=S)
        self.keeper.give(lane, 6)
        self.keeper.give(other, 7)
        self.court.tell((lane, 0, 100, 100, ()))
        self.assertEqual(self.keeper.waiting(), 3)
        self.assertEqual(self.keeper.wake(), [])
        self.assertEqual(self.keeper.waiting(), 1)

    def test_forgotten_where_the_last_turn_has_come(self):
        lane = self.lane("bert", "anna")
        self.keeper.pay(((lane, 60, 2),), seal=S)
        self.keeper.give(lane, 6)
        self.turns(1)
        self.assertEqual(self.keeper.waiting(), 2)
        self.court.turn()
        # It waits till the look, and is counted.
        self.assertEqual(self.keeper.waiting(), 2)
        self.assert_refused(NoCoins, self.keeper.give, lane, 40)
        self.keeper.wake()
        self.assertEqual(self.keeper.waiting(), 1)
        self.keeper.give(lane, 94)

    def test_forgotten_where_the_share_is_less(self):
        lane = self.lane("anna", "bert")
        self.keeper.give(lane, 60)
        self.keeper.pay(((lane, 41, 9),), seal=S)
        self.keeper.give(lane, 40)
        self.assertEqual(self.keeper.waiting(), 2)
        self.accept(lane)
        self.assertEqual(self.keeper.waiting(), 1)
        self.assertEqual(self.propose(lane, ("pass",)), [("bert", ("next", 0, 3, ("pay", "left", 40), ()))])

    def test_each_is_held_against_the_share_by_itself(self):
        lane = self.lane("anna", "bert")
        self.keeper.give(lane, 20)
        for amount in (50, 25, 25):
            self.keeper.give(lane, amount)
        self.accept(lane)
        self.assertEqual(self.keeper.waiting(), 3)

    def test_not_forgotten_behind_a_letter_that_is_refused(self):
        lane = self.lane("bert", "anna")
        self.keeper.pay(((lane, 60, 1),), seal=S)
        self.court.turn()
        with self.assertRaises(CoinError):
            self.keeper.hear("bert", None)
        self.assertEqual(self.keeper.waiting(), 1)
        self.hear(lane, ("turn", lane))
        self.assertEqual(self.keeper.waiting(), 0)

    def test_one_lane_forgets_and_the_other_goes_on(self):
        lane, other = self.lane("anna", "bert"), self.lane("anna", "carl")
        self.keeper.give(lane, 100)
        self.keeper.give(lane, 1)
        told = self.keeper.give(other, 100)
        self.assertEqual(told, [("carl", ("next", 1, 1, ("pay", "left", 100), ()))])
        self.accept(lane)
        self.assertEqual(self.keeper.waiting(), 0)


class ShutTest(KeeperTest):
    def test_an_open_lane(self):
        first, later = self.lane("bert", "anna"), self.lane("bert", "anna")
        self.propose(later, ("pay", "left", 9))
        for lane in (first, later):
            self.assertEqual(self.keeper.shut(lane), [])
            due = ("closing", "bert", "anna", 200, self.keeper.newest(lane), self.WAIT)
            self.assertEqual(self.court.stand(lane), due)

    def test_the_pending_state_is_not_told(self):
        lane = self.lane("anna", "bert")
        self.keeper.give(lane, 9)
        self.signs.sign("bert", self.keeper.pending(lane))
        self.keeper.shut(lane)
        self.assertEqual(self.court.stand(lane)[4], (lane, 0, 100, 100, ()))

    def test_a_closing_lane(self):
        lane = self.lane("bert", "anna")
        self.propose(lane, ("pay", "left", 9))
        self.court.tell((lane, 0, 100, 100, ()))
        self.keeper.shut(lane)
        self.assertEqual(self.court.stand(lane)[4], (lane, 1, 91, 109, ()))

    def test_refusals_in_their_order(self):
        lane = self.lane("bert", "anna")
        for bad in NO_WHOLE + [1, 5, GREATEST]:
            self.assert_refused(NoLane, self.keeper.shut, bad)
        self.keeper.shut(lane)
        self.assert_refused(Old, self.keeper.shut, lane)
        self.court.tell(self.sign_all((lane, 6, 1, 199, ())))
        self.assert_refused(Old, self.keeper.shut, lane)
        self.turns(self.WAIT - 1)
        self.assert_refused(Old, self.keeper.shut, lane)
        self.turns(1)
        self.assert_refused(Settled, self.keeper.shut, lane)

    def test_it_is_a_look(self):
        lane, other = self.lane("bert", "anna"), self.lane("carl", "anna")
        self.propose(other, ("pay", "left", 9))
        self.court.tell((other, 0, 100, 100, ()))
        third = self.lane("anna", "dora")
        self.keeper.give(lane, 5)
        self.keeper.give(third, 5)
        self.assertEqual(self.keeper.shut(lane), [])
        self.assertEqual(self.court.stand(other)[4][1], 1)
        self.assertEqual(self.keeper.waiting(), 0)


class TellTest(KeeperTest):
    def test_the_name_alone(self):
        self.assertEqual(self.keeper.name(), "anna")

    def test_a_secret(self):
        for seal in NO_WHOLE:
            self.assert_refused(NoNumber, self.keeper.secret, seal)
        self.assertIsNone(self.keeper.secret(S))
        self.assertIsNone(self.keeper.secret(FORTY))

    def test_known_by_a_bill_a_fold_and_the_court(self):
        lane = self.lane("anna", "bert")
        self.keeper.bill(1, amount=5)
        self.keeper.pay(((lane, 5, 20),), seal=SEALS[2])
        self.accept(lane)
        self.assertEqual([self.keeper.secret(SEALS[secret]) for secret in (1, 2, 3)], [1, None, None])
        letter = self.letter(lane, ("fold", 1, 2))
        self.assertIsNone(self.keeper.secret(SEALS[2]))
        self.hear(lane, letter)
        self.assertEqual(self.keeper.secret(SEALS[2]), 2)
        self.court.show(3)
        self.assertEqual([self.keeper.secret(SEALS[secret]) for secret in (1, 2, 3, 4)], [1, 2, 3, None])

    def test_not_known_by_a_fold_that_is_refused(self):
        lane = self.lane("anna", "bert")
        self.keeper.pay(((lane, 5, 20),), seal=S)
        self.accept(lane)
        letter = ("next", lane, 2, ("fold", 1, 7), ())
        self.assert_refused(NotSigned, self.hear, lane, letter)
        self.assertIsNone(self.keeper.secret(S))

    def test_known_by_a_fold_of_a_lock_for_its_side(self):
        lane, other = self.lane("bert", "anna"), self.lane("anna", "carl")
        self.offer(lane, 20, S, 20, ((other, 10, 9),))
        self.pass_on(lane)
        self.propose(lane, ("fold", 1, 7))
        self.assertEqual((self.keeper.secret(S), self.keeper.newest(lane)[2:]), (7, (80, 120, ())))

    def test_pending(self):
        lane = self.lane("anna", "bert")
        self.assertIsNone(self.keeper.pending(lane))
        self.keeper.give(lane, 3)
        self.assertEqual(self.keeper.pending(lane), (0, 1, 97, 103, ()))
        self.assertEqual(self.keeper.newest(lane), (0, 0, 100, 100, ()))
        self.accept(lane)
        self.assertIsNone(self.keeper.pending(lane))

    def test_receipts(self):
        lane, other = self.lane("anna", "bert"), self.lane("carl", "anna")
        order = [5, 3, 9, 1]
        for secret in order:
            self.keeper.pay(((lane, secret, 20), (8, 1, 9)), seal=SEALS[secret])
            self.accept(lane)
            self.pass_on(lane)
        # Not proposed: no receipt, though the secret is known.
        self.keeper.pay(((other, 2, 20),), seal=SEALS[2])
        self.assertEqual(self.keeper.receipts(), [])
        for secret in (2, 9, 3):
            self.court.show(secret)
        self.pass_on(lane)
        # Gone back, and still a receipt.
        self.propose(lane, ("drop", 3))
        self.propose_fold(lane, 1, 5)
        due = sorted((SEALS[secret], secret, secret) for secret in (3, 5, 9))
        self.assertEqual(self.keeper.receipts(), due)
        self.assertEqual(len(self.propose(other, ("pass",))), 1)
        self.assertEqual(self.keeper.receipts(), sorted(due + [(SEALS[2], 2, 2)]))

    def propose_fold(self, lane, number, secret):
        if self.keeper.newest(lane)[1] % 2 == 0:
            self.pass_on(lane)
        self.propose(lane, ("fold", number, secret))

    def test_a_receipt_of_a_seal_that_it_billed_itself(self):
        lane = self.lane("anna", "bert")
        self.keeper.bill(7)
        self.keeper.pay(((lane, 5, 20),), seal=S)
        self.assertEqual(self.keeper.receipts(), [(S, 7, 5)])


class InterfaceTest(unittest.TestCase):
    def test_names_and_arguments(self):
        self.assertEqual(Keeper.__module__, "coinlanes.keepers")
        self.assertEqual(str(inspect.signature(Keeper)), "(name, court, signs, *, gap=2, fee=(1, 10))")
        due = {
            "agree": "(self, paper)", "wake": "(self)", "hear": "(self, hand, letter)",
            "bill": "(self, secret, *, amount=1)", "pay": "(self, hops, *, seal)", "give": "(self, lane, amount)",
            "shut": "(self, lane)", "name": "(self)", "lanes": "(self)", "receipts": "(self)",
            "newest": "(self, lane)", "pending": "(self, lane)", "secret": "(self, seal)", "waiting": "(self)",
            "surely": "(self)",
        }
        for word, arguments in due.items():
            self.assertIn(word, vars(Keeper))
            self.assertEqual(str(inspect.signature(vars(Keeper)[word])), arguments)


if __name__ == "__main__":
    unittest.main()
