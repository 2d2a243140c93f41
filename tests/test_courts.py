"""Points 9 to 14 and 36, and 4 (a): the court, deed by deed."""

import inspect
import unittest

from coinlanes import courts
from coinlanes.bounds import WAIT
from coinlanes.courts import Court
from coinlanes.errors import (
    CoinError, NoCoins, NoHand, NoLane, NoName, NoNumber, NoSecret, NoState, NotSigned, Old, Settled)
from coinlanes.seals import seal_of
from coinlanes.signs import Signs
from coinlanes.states import first_state
from things import ANY, BELOW_0, FORTY, GREATEST, NO_NAMES, NO_WHOLE, with_part

PURSES = (("carl", 50), ("anna", 100), ("bert", 80), ("dora", 0))
SECRETS = range(0, 12)


def everything(court):
    """All that the court tells, of lanes, hands and seals that are there."""
    told = [court.now(), court.patience(), court.lanes(), court.coins(), court.held(), court.hands(), court.rows()]
    told += [court.purse(hand) for hand in court.hands()]
    told += [court.stand(lane) for lane in range(court.lanes())]
    for secret in SECRETS:
        told += [court.shown(seal_of(secret)), court.secret(seal_of(secret))]
    return told


class CourtTest(unittest.TestCase):
    def setUp(self):
        self.signs = Signs()
        self.court = Court(self.signs, wait=3, purses=PURSES)

    def tearDown(self):
        # 4 (a): whatever a test did, no coin was made or lost.
        self.assertEqual(self.court.coins(), sum(coins for _, coins in PURSES))
        self.assertEqual(self.all_coins(), self.court.coins())

    def all_coins(self):
        court = self.court
        stands = [court.stand(lane) for lane in range(court.lanes())]
        return (sum(court.purse(hand) for hand in court.hands()) + sum(row[3] for row in stands if row[0] != "settled")
                + sum(lock[2] for _, lock in court.held()))

    def assert_refused(self, kind, asked, *told, **named):
        before = everything(self.court)
        with self.assertRaises(kind) as caught:
            asked(*told, **named)
        self.assertIs(type(caught.exception), kind)
        self.assertEqual(everything(self.court), before)

    def opened(self, left="anna", right="bert", left_coins=30, right_coins=20):
        paper = ("open", self.court.lanes(), left, right, left_coins, right_coins)
        self.signs.sign(left, paper)
        self.signs.sign(right, paper)
        return self.court.lane(left, right, left_coins=left_coins, right_coins=right_coins)

    def sign(self, state):
        _, left, right, _, _, _ = self.court.stand(state[0])
        self.signs.sign(left, state)
        self.signs.sign(right, state)
        return state

    def told(self, *parts):
        """Both hands sign a state and it is told."""
        self.assertIsNone(self.court.tell(self.sign(parts)))
        return parts

    def turns(self, many):
        return [self.court.turn() for _ in range(many)]

    def purses(self):
        return [self.court.purse(hand) for hand in ("anna", "bert", "carl", "dora")]


class MadeTest(unittest.TestCase):
    def assert_refused(self, kind, **named):
        with self.assertRaises(kind) as caught:
            Court(Signs(), **named)
        self.assertIs(type(caught.exception), kind)

    def test_what_it_tells_at_first(self):
        court = Court(Signs(), wait=3, purses=PURSES)
        self.assertEqual((court.now(), court.patience(), court.lanes(), court.coins()), (0, 3, 0, 230))
        self.assertEqual(court.hands(), ["anna", "bert", "carl", "dora"])
        self.assertEqual([court.purse(hand) for hand in court.hands()], [100, 80, 50, 0])
        self.assertEqual((court.held(), court.rows()), ([], []))
        self.assertIsNone(court.shown(7))
        self.assertIsNone(court.secret(7))
        with self.assertRaises(NoLane):
            court.stand(0)

    def test_left_out(self):
        court = Court(Signs())
        self.assertEqual((court.patience(), court.hands(), court.coins()), (WAIT, [], 0))
        self.assertEqual(Court(Signs(), purses=PURSES).patience(), WAIT)
        self.assertEqual(Court(Signs(), wait=9).hands(), [])

    def test_waits(self):
        for wait in (1, 2, 6, 99, 100):
            self.assertEqual(Court(Signs(), wait=wait).patience(), wait)
        for wait in NO_WHOLE + [0, 101, 102, GREATEST, FORTY, 10 ** 5000]:
            self.assert_refused(NoNumber, wait=wait)

    def test_purses(self):
        self.assertEqual(Court(Signs(), purses=()).hands(), [])
        names = [a + b for a in "fedcba" for b in "aecdb"]
        thirty = tuple((name, place * place) for place, name in enumerate(names))
        court = Court(Signs(), purses=thirty)
        self.assertEqual(court.hands(), sorted(names))
        for name, coins in thirty:
            self.assertEqual(court.purse(name), coins)
        self.assertEqual(court.coins(), sum(coins for _, coins in thirty))
        great = Court(Signs(), purses=(("a", GREATEST), ("b", FORTY)))
        self.assertEqual((great.purse("a"), great.purse("b"), great.coins()), (GREATEST, FORTY, GREATEST + FORTY))

    def test_hands_that_are_none(self):
        for name in NO_NAMES:
            self.assert_refused(NoName, purses=((name, 5),))
            self.assert_refused(NoName, purses=(("anna", 5), (name, 5)))
            self.assert_refused(NoName, purses=((name, 5), ("anna", 5)))

    def test_a_hand_twice(self):
        self.assert_refused(NoName, purses=(("anna", 5), ("anna", 5)))
        self.assert_refused(NoName, purses=(("anna", 5), ("bert", 5), ("anna", 6)))

    def test_coins_that_are_none(self):
        for coins in NO_WHOLE:
            self.assert_refused(NoCoins, purses=(("anna", coins),))
            self.assert_refused(NoCoins, purses=(("anna", 0), ("bert", coins)))

    def test_what_are_no_purses(self):
        for purses in [None, 0, 5, True, "", "anna", [], [("anna", 5)], (["anna", 5],), {"anna": 5}, ("anna", 5), (5,),
                       (("anna",),), ((),), (("anna", 5, 5),), (("anna", 5), None), object()]:
            self.assert_refused(NoCoins, purses=purses)
        many = tuple((a + b, 1) for a in "abcdef" for b in "abcdef")
        self.assert_refused(NoCoins, purses=many[:31])
        self.assertEqual(len(Court(Signs(), purses=many[:30]).hands()), 30)

    def test_the_order_of_refusals(self):
        self.assert_refused(NoNumber, wait=0, purses=(("Anna", -1),))
        self.assert_refused(NoNumber, wait=True, purses=None)
        self.assert_refused(NoName, wait=1, purses=(("Anna", -1),))
        self.assert_refused(NoName, purses=(("anna", -1), ("Bert", 1)))
        self.assert_refused(NoName, purses=(("anna", -1), ("anna", 1)))
        self.assert_refused(NoName, purses=(("anna", 1, 1), ("Bert", 1)))

    def test_two_courts(self):
        signs = Signs()
        one, other = Court(signs, purses=PURSES), Court(Signs(), purses=PURSES)
        one.show(5)
        one.turn()
        self.assertEqual((one.now(), other.now()), (1, 0))
        self.assertEqual((one.shown(seal_of(5)), other.shown(seal_of(5))), (0, None))
        self.assertEqual((len(one.rows()), len(other.rows())), (2, 0))

    def test_interface(self):
        due = {"lane": "self left right left_coins right_coins", "tell": "self state", "show": "self secret",
               "turn": "self", "now": "self", "patience": "self", "purse": "self hand", "lanes": "self",
               "coins": "self", "stand": "self lane", "shown": "self seal", "secret": "self seal", "held": "self",
               "hands": "self", "rows": "self", "__init__": "self signs wait purses"}
        self.assertEqual(courts.Court.__module__, "coinlanes.courts")
        for word, names in due.items():
            self.assertIn(word, vars(Court))
            self.assertEqual(list(inspect.signature(getattr(Court, word)).parameters), names.split())
        court = Court(Signs(), purses=PURSES)
        for asked, named in ((Court, (Signs(), 3)), (court.lane, ("anna", "bert", 1))):
            with self.assertRaises(TypeError):
                asked(*named)


class LaneTest(CourtTest):
    def test_a_lane(self):
        self.assertEqual(self.opened(), 0)
        self.assertEqual(self.court.stand(0), ("open", "anna", "bert", 50, (0, 0, 30, 20, ()), None))
        self.assertEqual(self.purses(), [70, 60, 50, 0])
        self.assertEqual((self.court.lanes(), self.court.coins(), self.court.now()), (1, 230, 0))

    def test_numbers(self):
        self.assertEqual([self.opened("anna", "bert", 1, 1) for _ in range(5)], [0, 1, 2, 3, 4])
        self.assertEqual(self.opened("bert", "carl", 1, 1), 5)
        self.told(*first_state(5, 1, 1))
        self.turns(3)
        self.assertEqual(self.opened("bert", "anna", 1, 1), 6)
        self.assertEqual(self.court.lanes(), 7)

    def test_sides(self):
        self.opened("bert", "anna", 7, 3)
        self.assertEqual(self.court.stand(0), ("open", "bert", "anna", 10, (0, 0, 7, 3, ()), None))
        self.assertEqual(self.purses()[:2], [97, 73])

    def test_all_coins_of_a_purse(self):
        self.opened("anna", "dora", 100, 0)
        self.assertEqual(self.purses(), [0, 80, 50, 0])
        self.assertEqual(self.court.stand(0)[3:5], (100, (0, 0, 100, 0, ())))
        self.opened("dora", "bert", 0, 80)
        self.assertEqual(self.purses(), [0, 0, 50, 0])

    def test_left_out(self):
        self.signs.sign("anna", ("open", 0, "anna", "bert", 5, 0))
        self.signs.sign("bert", ("open", 0, "anna", "bert", 5, 0))
        self.assertEqual(self.court.lane("anna", "bert", left_coins=5), 0)
        self.signs.sign("anna", ("open", 1, "anna", "bert", 0, 5))
        self.signs.sign("bert", ("open", 1, "anna", "bert", 0, 5))
        self.assertEqual(self.court.lane("anna", "bert", right_coins=5), 1)
        self.assert_refused(NoCoins, self.court.lane, "anna", "bert")

    def test_hands_that_have_no_purse(self):
        for hand in NO_NAMES + ["emil", "ann", "annab"]:
            self.assert_refused(NoHand, self.court.lane, hand, "bert", left_coins=1, right_coins=1)
            self.assert_refused(NoHand, self.court.lane, "anna", hand, left_coins=1, right_coins=1)
            self.assert_refused(NoHand, self.court.lane, hand, hand, left_coins=1, right_coins=1)
        self.assert_refused(NoHand, self.court.lane, "anna", "anna", left_coins=1, right_coins=1)

    def test_coins_that_are_none(self):
        for coins in NO_WHOLE:
            self.assert_refused(NoCoins, self.court.lane, "anna", "bert", left_coins=coins, right_coins=1)
            self.assert_refused(NoCoins, self.court.lane, "anna", "bert", left_coins=1, right_coins=coins)
        self.assert_refused(NoCoins, self.court.lane, "anna", "bert", left_coins=0, right_coins=0)

    def test_more_than_a_purse_has(self):
        self.assert_refused(NoCoins, self.opened, "anna", "bert", 101, 0)
        self.assert_refused(NoCoins, self.opened, "anna", "bert", 0, 81)
        self.assert_refused(NoCoins, self.opened, "anna", "bert", 101, 81)
        self.assert_refused(NoCoins, self.opened, "anna", "dora", 1, 1)
        self.assert_refused(NoCoins, self.opened, "dora", "anna", 1, 1)
        self.assert_refused(NoCoins, self.opened, "anna", "bert", 10 ** 5000, 1)
        self.opened("anna", "bert", 60, 1)
        self.assert_refused(NoCoins, self.opened, "anna", "bert", 41, 1)
        self.opened("anna", "bert", 40, 1)

    def test_not_signed(self):
        paper = ("open", 0, "anna", "bert", 30, 20)
        opening = ("anna", "bert"), {"left_coins": 30, "right_coins": 20}
        self.assert_refused(NotSigned, self.court.lane, *opening[0], **opening[1])
        self.signs.sign("anna", paper)
        self.assert_refused(NotSigned, self.court.lane, *opening[0], **opening[1])
        for other in [with_part(paper, 1, 1), with_part(paper, 4, 31), with_part(paper, 5, 21),
                      with_part(paper, 3, "carl"), ("open", 0, "bert", "anna", 20, 30), (0, 0, 30, 20, ())]:
            self.signs.sign("bert", other)
            self.assert_refused(NotSigned, self.court.lane, *opening[0], **opening[1])
        self.signs.sign("carl", paper)
        self.assert_refused(NotSigned, self.court.lane, *opening[0], **opening[1])
        self.signs.sign("bert", paper)
        self.assertEqual(self.court.lane(*opening[0], **opening[1]), 0)
        # The paper was for this very number.
        self.assert_refused(NotSigned, self.court.lane, *opening[0], **opening[1])

    def test_left_did_not_sign(self):
        self.signs.sign("bert", ("open", 0, "anna", "bert", 1, 1))
        self.assert_refused(NotSigned, self.court.lane, "anna", "bert", left_coins=1, right_coins=1)

    def test_the_order_of_refusals(self):
        for left, right in (("Anna", "bert"), ("anna", "anna"), ("anna", None)):
            for coins in (-1, True, 0, 999, None):
                self.assert_refused(NoHand, self.court.lane, left, right, left_coins=coins, right_coins=coins)
        for coins in (-1, True, 0, 999, None):
            self.assert_refused(NoCoins, self.court.lane, "anna", "bert", left_coins=coins, right_coins=coins)
        self.assert_refused(NotSigned, self.court.lane, "anna", "bert", left_coins=1, right_coins=1)


class TellTest(CourtTest):
    def test_the_end_is_the_wait_behind(self):
        self.opened()
        self.turns(2)
        state = self.told(0, 5, 10, 40, ())
        self.assertEqual(self.court.stand(0), ("closing", "anna", "bert", 50, state, 5))
        self.assertEqual(self.turns(2), [[], []])
        self.assertEqual(self.court.stand(0), ("closing", "anna", "bert", 50, state, 5))
        self.assertEqual(self.purses(), [70, 60, 50, 0])
        self.assertEqual(self.court.turn(), [("anna", 10), ("bert", 40)])
        self.assertEqual(self.court.stand(0), ("settled", "anna", "bert", 50, state, 5))
        self.assertEqual(self.purses(), [80, 100, 50, 0])
        self.assertEqual(self.turns(4), [[]] * 4)
        self.assertEqual(self.court.stand(0), ("settled", "anna", "bert", 50, state, 5))

    def test_the_very_first_state_needs_no_signs(self):
        self.opened()
        self.court.tell((0, 0, 30, 20, ()))
        self.assertEqual(self.court.stand(0), ("closing", "anna", "bert", 50, (0, 0, 30, 20, ()), 3))
        self.assertEqual(self.signs.papers("anna"), [("open", 0, "anna", "bert", 30, 20)])
        self.assertEqual(self.turns(3), [[], [], [("anna", 30), ("bert", 20)]])
        self.assertEqual(self.purses(), [100, 80, 50, 0])

    def test_other_states_with_number_0_need_signs(self):
        self.opened()
        for state in ((0, 0, 29, 21, ()), (0, 0, 20, 30, ()), (0, 1, 30, 20, ())):
            self.assert_refused(NotSigned, self.court.tell, state)
        self.told(0, 0, 29, 21, ())
        self.assert_refused(Old, self.court.tell, (0, 0, 30, 20, ()))

    def test_a_later_telling_leaves_the_end(self):
        self.opened()
        self.told(0, 1, 25, 25, ())
        self.turns(1)
        self.told(0, 2, 26, 24, ())
        self.turns(1)
        state = self.told(0, 9, 27, 23, ())
        self.assertEqual(self.court.stand(0), ("closing", "anna", "bert", 50, state, 3))
        self.assertEqual(self.court.turn(), [("anna", 27), ("bert", 23)])
        self.assertEqual(self.court.stand(0), ("settled", "anna", "bert", 50, state, 3))

    def test_the_greatest_number_counts(self):
        self.opened()
        for number in (1, 4, 7, 8):
            self.told(0, number, number, 50 - number, ())
        for number in (8, 7, 4, 1, 0, 2, 6):
            state = self.sign((0, number, number, 50 - number, ()))
            self.assert_refused(Old, self.court.tell, state)
        self.assert_refused(Old, self.court.tell, self.sign((0, 8, 0, 50, ())))
        self.assert_refused(Old, self.court.tell, (0, 0, 30, 20, ()))
        self.assertEqual(self.turns(3)[2], [("anna", 8), ("bert", 42)])

    def test_a_state_that_was_signed_and_older_ones_behind_it(self):
        self.opened()
        newer, older = self.sign((0, 6, 1, 49, ())), self.sign((0, 5, 2, 48, ()))
        self.court.tell(newer)
        self.assert_refused(Old, self.court.tell, newer)
        self.assert_refused(Old, self.court.tell, older)
        self.turns(3)
        for state in (newer, older, (0, 0, 30, 20, ()), self.sign((0, 99, 1, 49, ())), (0, 99, 0, 0, ()),
                      (0, 7, 3, 47, ())):
            self.assert_refused(Settled, self.court.tell, state)

    def test_told_up_to_the_last_turn_ahead_of_the_end(self):
        self.opened()
        self.told(0, 1, 50, 0, ())
        self.turns(2)
        self.told(0, 2, 0, 50, ())
        self.assertEqual(self.court.turn(), [("bert", 50)])
        self.assert_refused(Settled, self.court.tell, self.sign((0, 3, 50, 0, ())))

    def test_what_is_no_state(self):
        self.opened()
        good = self.sign((0, 1, 25, 25, ()))
        bad = [list(good), good[:4], good + (0,), with_part(good, 1, True), with_part(good, 4, []), (good,)]
        for thing in ANY + bad:
            self.assert_refused(NoState, self.court.tell, thing)

    def test_no_lane_of_its_number(self):
        self.assert_refused(NoLane, self.court.tell, (0, 0, 30, 20, ()))
        self.opened()
        for lane in (1, 2, GREATEST, FORTY):
            self.assert_refused(NoLane, self.court.tell, (lane, 0, 30, 20, ()))

    def test_not_both_signed(self):
        self.opened()
        state = (0, 1, 24, 25, ((1, "left", 1, 7, 8),))
        self.assert_refused(NotSigned, self.court.tell, state)
        self.signs.sign("anna", state)
        self.signs.sign("carl", state)
        self.assert_refused(NotSigned, self.court.tell, state)
        self.signs.sign("bert", with_part(state, 4, ((1, "left", 1, 7, 9),)))
        self.signs.sign("bert", with_part(state, 1, 2))
        self.assert_refused(NotSigned, self.court.tell, state)
        self.signs.sign("bert", state)
        self.court.tell(state)
        self.assertEqual(self.court.stand(0)[4], state)
        other = (0, 2, 25, 25, ())
        self.signs.sign("bert", other)
        self.assert_refused(NotSigned, self.court.tell, other)
        self.signs.sign("anna", other)
        self.court.tell(other)

    def test_another_worth(self):
        self.opened()
        for state in ((0, 1, 25, 24, ()), (0, 1, 25, 26, ()), (0, 1, 0, 0, ()), (0, 1, 25, 25, ((1, "left", 1, 7, 8),)),
                      (0, 0, 30, 21, ()), (0, 0, 0, 0, ())):
            self.assert_refused(NotSigned, self.court.tell, self.sign(state))
        self.told(0, 1, 25, 24, ((1, "left", 1, 7, 8),))

    def test_the_order_of_refusals(self):
        self.opened()
        self.opened("bert", "carl", 5, 5)
        self.told(0, 4, 25, 25, ())
        self.turns(3)
        self.told(1, 4, 5, 5, ())
        self.assert_refused(NoState, self.court.tell, (9, 1, True, 0, ()))
        self.assert_refused(NoState, self.court.tell, [0, 0, 0, 0, ()])
        self.assert_refused(NoLane, self.court.tell, (9, 1, 7, 7, ()))
        self.assert_refused(Settled, self.court.tell, (0, 4, 7, 7, ()))
        self.assert_refused(Settled, self.court.tell, (0, 3, 25, 25, ()))
        self.assert_refused(NotSigned, self.court.tell, (1, 3, 5, 5, ()))
        self.assert_refused(NotSigned, self.court.tell, self.sign((1, 3, 6, 5, ())))
        self.assert_refused(NotSigned, self.court.tell, (1, 5, 5, 5, ()))
        self.assert_refused(Old, self.court.tell, self.sign((1, 3, 5, 5, ())))
        self.assert_refused(Old, self.court.tell, first_state(1, 5, 5))


class ShowTest(CourtTest):
    def test_from_this_turn_on(self):
        self.turns(2)
        self.assertIsNone(self.court.show(5))
        seal = seal_of(5)
        self.assertEqual((self.court.shown(seal), self.court.secret(seal)), (2, 5))
        self.turns(3)
        self.court.show(5)
        self.assertEqual((self.court.shown(seal), self.court.secret(seal)), (2, 5))
        self.court.show(6)
        self.assertEqual((self.court.shown(seal_of(6)), self.court.secret(seal_of(6))), (5, 6))
        self.assertIsNone(self.court.shown(seal_of(7)))
        self.assertIsNone(self.court.secret(seal_of(7)))

    def test_at_turn_0_and_the_secret_0(self):
        self.court.show(0)
        self.assertEqual((self.court.shown(seal_of(0)), self.court.secret(seal_of(0))), (0, 0))

    def test_a_seal_is_not_its_secret(self):
        self.court.show(5)
        self.assertIsNone(self.court.shown(5))
        self.assertIsNone(self.court.secret(5))

    def test_great_ones(self):
        for secret in (GREATEST, FORTY):
            self.court.show(secret)
            self.assertEqual(self.court.secret(seal_of(secret)), secret)

    def test_refused(self):
        for thing in NO_WHOLE:
            self.assert_refused(NoSecret, self.court.show, thing)


class SettleTest(CourtTest):
    def test_several_lanes_in_one_turn(self):
        self.opened("anna", "bert", 10, 10)
        self.opened("carl", "anna", 10, 10)
        self.opened("bert", "dora", 10, 0)
        self.opened("anna", "carl", 3, 3)
        for state in ((2, 1, 4, 6, ()), (1, 1, 0, 20, ()), (3, 1, 6, 0, ()), (0, 1, 3, 17, ())):
            self.told(*state)
        self.assertEqual(self.turns(2), [[], []])
        self.assertEqual(self.court.turn(), [
            ("anna", 3), ("bert", 17), ("anna", 20), ("bert", 4), ("dora", 6), ("anna", 6)])
        self.assertEqual([self.court.stand(lane)[0] for lane in range(4)], ["settled"] * 4)
        self.assertEqual(self.purses(), [106, 81, 37, 6])

    def test_each_lane_at_its_own_end(self):
        self.opened("anna", "bert", 10, 10)
        self.opened("carl", "anna", 10, 10)
        self.opened("anna", "bert", 1, 1)
        self.told(1, 1, 9, 11, ())
        self.turns(1)
        self.told(0, 1, 8, 12, ())
        self.assertEqual(self.turns(3), [[], [("carl", 9), ("anna", 11)], [("anna", 8), ("bert", 12)]])
        self.assertEqual([self.court.stand(lane)[0] for lane in range(3)], ["settled", "settled", "open"])
        self.assertEqual(self.turns(9), [[]] * 9)

    def test_waits(self):
        for wait in (1, 2, 100):
            self.setUp()
            self.court = Court(self.signs, wait=wait, purses=PURSES)
            self.opened()
            self.court.tell((0, 0, 30, 20, ()))
            self.assertEqual(self.court.stand(0)[5], wait)
            self.assertEqual(self.turns(wait), [[]] * (wait - 1) + [[("anna", 30), ("bert", 20)]])

    def test_coins_come_back_into_use(self):
        self.opened("anna", "bert", 100, 80)
        self.told(0, 1, 0, 180, ())
        self.turns(3)
        self.assertEqual(self.purses(), [0, 180, 50, 0])
        self.assertEqual(self.opened("bert", "anna", 180, 0), 1)

    def test_all_is_nothing(self):
        self.opened("anna", "bert", 1, 0)
        self.told(0, 1, 0, 0, ((1, "left", 1, 7, 9),))
        self.assertEqual(self.turns(3), [[], [], []])
        self.assertEqual(self.court.held(), [(0, (1, "left", 1, 7, 9))])


class LockTest(CourtTest):
    """A lane that ends at turn 3, its locks under the seals of 5 and 6."""

    SEAL, OTHER = seal_of(5), seal_of(6)

    def settled(self, *locks, show=None, turns=3):
        """Tell a state with these locks at turn 0; at a turn, show 5; tell what each turn paid."""
        self.opened()
        rest = 50 - sum(lock[2] for lock in locks)
        self.told(0, 9, rest, 0, locks)
        paid = []
        for now in range(turns):
            if show == now:
                self.court.show(5)
            paid.append(self.court.turn())
        return paid

    def test_held(self):
        locks = ((2, "left", 4, self.SEAL, 8), (7, "right", 5, self.OTHER, 9))
        self.assertEqual(self.settled(*locks), [[], [], [("anna", 41)]])
        self.assertEqual(self.court.held(), [(0, locks[0]), (0, locks[1])])
        self.assertEqual(self.court.coins(), 230)
        self.assertEqual(self.turns(5), [[]] * 5)
        self.assertEqual(self.court.held(), [(0, locks[0]), (0, locks[1])])
        self.assertEqual(self.court.turn(), [("anna", 4)])
        self.assertEqual(self.court.turn(), [("bert", 5)])
        self.assertEqual(self.court.held(), [])
        self.assertEqual(self.purses(), [70 + 45, 60 + 5, 50, 0])

    def test_last_and_one_less_and_one_more(self):
        for last, behind in ((2, [("anna", 46), ("anna", 4)]), (3, [("anna", 46)]), (4, [("anna", 46)])):
            self.setUp()
            self.assertEqual(self.settled((2, "left", 4, self.SEAL, last))[2], behind)
            found = [paid for paid in self.turns(3)]
            due = {2: [[], [], []], 3: [[("anna", 4)], [], []], 4: [[], [("anna", 4)], []]}[last]
            self.assertEqual(found, due)

    def test_a_last_far_behind_the_settling(self):
        self.assertEqual(self.settled((2, "right", 4, self.SEAL, 0))[2], [("anna", 46), ("bert", 4)])
        self.assertEqual(self.court.held(), [])

    def test_shown_ahead_of_being_held(self):
        for show in (0, 1, 2):
            for last in (2, 3, 9):
                self.setUp()
                paid = self.settled((2, "left", 4, self.SEAL, last), (3, "right", 6, self.SEAL, last), show=show)
                self.assertEqual(paid, [[], [], [("anna", 40), ("bert", 4), ("anna", 6)]])
                self.assertEqual(self.court.held(), [])

    def test_shown_behind_its_last_ahead_of_being_held(self):
        paid = self.settled((2, "left", 4, self.SEAL, 1), show=2)
        self.assertEqual(paid[2], [("anna", 46), ("anna", 4)])

    def test_shown_at_its_last_ahead_of_being_held(self):
        paid = self.settled((2, "left", 4, self.SEAL, 1), show=1)
        self.assertEqual(paid[2], [("anna", 46), ("bert", 4)])

    def test_shown_while_it_is_held(self):
        for last in (3, 4, 5, 9):
            self.setUp()
            self.settled((2, "left", 4, self.SEAL, last))
            self.court.show(5)
            self.assertEqual(len(self.court.held()), 1)
            self.assertEqual(self.purses()[:2], [116, 60])
            self.assertEqual(self.court.turn(), [("bert", 4)])
            self.assertEqual((self.court.held(), self.purses()), ([], [116, 64, 50, 0]))

    def test_shown_at_its_last_while_it_is_held(self):
        self.settled((2, "right", 4, self.SEAL, 5))
        self.assertEqual(self.turns(2), [[], []])
        self.assertEqual(self.court.now(), 5)
        self.court.show(5)
        self.assertEqual(self.court.turn(), [("anna", 4)])

    def test_shown_behind_its_last(self):
        self.settled((2, "right", 4, self.SEAL, 5))
        self.assertEqual(self.turns(3), [[], [], [("bert", 4)]])
        self.court.show(5)
        self.assertEqual(self.turns(3), [[], [], []])

    def test_shown_again_at_its_last(self):
        self.settled((2, "right", 4, self.SEAL, 1), (3, "right", 7, self.OTHER, 9), show=2)
        self.court.show(5)
        self.court.show(6)
        self.assertEqual(self.court.turn(), [("anna", 7)])

    def test_one_seal_for_several_locks(self):
        locks = [(2, "left", 4, self.SEAL, 3), (3, "right", 6, self.SEAL, 4), (5, "left", 7, self.OTHER, 9),
                 (8, "left", 1, self.SEAL, 9)]
        self.settled(*locks)
        self.assertEqual(self.court.turn(), [("anna", 4)])
        self.court.show(5)
        self.assertEqual(self.court.turn(), [("anna", 6), ("bert", 1)])
        self.assertEqual(self.court.held(), [(0, locks[2])])

    def test_by_lanes_and_ids(self):
        for left, right in (("anna", "bert"), ("carl", "anna"), ("bert", "carl")):
            self.opened(left, right, 20, 20)
        lock = self.SEAL, 9
        self.told(2, 9, 30, 3, ((1, "left", 3, *lock), (4, "right", 4, self.OTHER, 7)))
        self.turns(1)
        self.told(0, 9, 30, 1, ((5, "right", 5, *lock), (6, "left", 4, *lock)))
        self.turns(1)
        self.told(1, 9, 0, 25, ((2, "left", 6, *lock), (9, "left", 9, self.OTHER, 9)))
        self.assertEqual(self.turns(1), [[("bert", 30), ("carl", 3)]])
        self.assertEqual([(lane, row[0]) for lane, row in self.court.held()], [(2, 1), (2, 4)])
        self.assertEqual(self.turns(1), [[("anna", 30), ("bert", 1)]])
        self.assertEqual([(lane, row[0]) for lane, row in self.court.held()], [(0, 5), (0, 6), (2, 1), (2, 4)])
        self.court.show(5)
        self.court.show(6)
        self.assertEqual(self.court.turn(), [
            ("anna", 25), ("anna", 5), ("bert", 4), ("anna", 6), ("anna", 9), ("carl", 3), ("bert", 4)])
        self.assertEqual(self.court.held(), [])

    def test_all_shares_ahead_of_all_locks(self):
        self.opened("anna", "bert", 20, 20)
        self.opened("carl", "anna", 20, 20)
        self.told(1, 9, 20, 15, ((1, "right", 5, self.OTHER, 0),))
        self.told(0, 9, 15, 20, ((1, "left", 5, self.SEAL, 9),))
        self.court.show(5)
        self.assertEqual(self.turns(3)[2], [
            ("anna", 15), ("bert", 20), ("carl", 20), ("anna", 15), ("bert", 5), ("anna", 5)])

    def test_thirty_locks(self):
        self.opened("anna", "bert", 100, 80)
        seals = [seal_of(number % 10) for number in range(30)]
        locks = tuple((place + 1, "left", place + 1 if place < 15 else 1, seal, 5) for place, seal in enumerate(seals))
        self.told(0, 30, 0, 180 - sum(lock[2] for lock in locks), locks)
        for secret in range(0, 10, 2):
            self.court.show(secret)
        paid = self.turns(3)[2]
        self.assertEqual(paid[1:], [("bert", lock[2]) for place, lock in enumerate(locks) if place % 2 == 0])
        self.assertEqual(self.court.held(), [(0, lock) for place, lock in enumerate(locks) if place % 2])
        self.assertEqual(self.turns(3), [
            [], [], [("anna", lock[2]) for place, lock in enumerate(locks) if place % 2]])


class TellsTest(CourtTest):
    """Point 14."""

    def test_a_lane_in_each_of_its_words(self):
        self.opened()
        self.assertEqual(self.court.stand(0), ("open", "anna", "bert", 50, (0, 0, 30, 20, ()), None))
        self.sign((0, 3, 25, 25, ()))
        self.turns(1)
        self.assertEqual(self.court.stand(0), ("open", "anna", "bert", 50, (0, 0, 30, 20, ()), None))
        state = self.told(0, 3, 25, 20, ((2, "left", 5, 7, 8),))
        self.assertEqual(self.court.stand(0), ("closing", "anna", "bert", 50, state, 4))
        self.turns(3)
        self.assertEqual(self.court.stand(0), ("settled", "anna", "bert", 50, state, 4))
        self.turns(9)
        self.assertEqual(self.court.stand(0), ("settled", "anna", "bert", 50, state, 4))
        self.assertIs(type(self.court.stand(0)), tuple)

    def test_what_is_no_lane(self):
        self.opened()
        self.opened()
        for lane in NO_WHOLE + [2, 3, GREATEST, 10 ** 5000]:
            self.assert_refused(NoLane, self.court.stand, lane)

    def test_what_is_no_hand(self):
        for hand in NO_NAMES + ["emil", "ann"]:
            self.assert_refused(NoHand, self.court.purse, hand)

    def test_what_is_no_seal(self):
        self.court.show(1)
        for seal in NO_WHOLE:
            self.assert_refused(NoNumber, self.court.shown, seal)
            self.assert_refused(NoNumber, self.court.secret, seal)
        for seal in (0, 1, GREATEST, FORTY, 10 ** 5000):
            self.assertIsNone(self.court.shown(seal))
            self.assertIsNone(self.court.secret(seal))

    def test_lists_are_new(self):
        self.opened()
        self.told(0, 9, 0, 45, ((2, "left", 5, 7, 9),))
        self.turns(3)
        due = [["anna", "bert", "carl", "dora"], [(0, (2, "left", 5, 7, 9))], self.court.rows()]
        for _ in range(2):
            for asked, told in zip((self.court.hands, self.court.held, self.court.rows), due):
                one, other = asked(), asked()
                self.assertIs(type(one), list)
                self.assertIsNot(one, other)
                one.clear()
                other.append(None)
                self.assertEqual(asked(), told)

    def test_a_told_turn_that_is_changed(self):
        self.opened()
        self.court.tell((0, 0, 30, 20, ()))
        for _ in range(4):
            paid = self.court.turn()
            self.assertIs(type(paid), list)
            paid.append(("anna", 1000))
            paid.reverse()
        self.assertEqual([paid for _, paid in self.court.rows()], [[], [], [], [], [("anna", 30), ("bert", 20)], []])
        self.assertEqual(self.purses(), [100, 80, 50, 0])

    def test_asking_changes_nothing(self):
        self.opened()
        self.told(0, 9, 0, 45, ((2, "left", 5, 7, 9),))
        self.turns(4)
        self.assertEqual(everything(self.court), everything(self.court))


class RowsTest(CourtTest):
    """Point 36."""

    def some_deeds(self):
        """Deeds of each word; told are the rows that are due."""
        self.opened()
        self.opened("carl", "anna", 7, 0)
        first = self.told(0, 2, 20, 26, ((1, "left", 4, seal_of(5), 9),))
        self.court.show(5)
        self.court.show(5)
        self.turns(1)
        self.court.tell((1, 0, 7, 0, ()))
        second = self.told(0, 3, 21, 25, ((1, "left", 4, seal_of(5), 9),))
        self.turns(3)
        return [
            (("open", "anna", "bert", 30, 20), []), (("open", "carl", "anna", 7, 0), []), (("tell", first), []),
            (("show", 5), []), (("show", 5), []), (("turn",), []), (("tell", (1, 0, 7, 0, ())), []),
            (("tell", second), []), (("turn",), []), (("turn",), [("anna", 21), ("bert", 25), ("bert", 4)]),
            (("turn",), [("carl", 7)])]

    def test_one_for_each_deed(self):
        due = self.some_deeds()
        rows = self.court.rows()
        self.assertEqual(rows, due)
        self.assertEqual({type(row) for row in rows}, {tuple})
        self.assertEqual({type(paid) for _, paid in rows}, {list})
        self.assertEqual({type(deed) for deed, _ in rows}, {tuple})

    def test_none_for_what_is_refused_or_asked(self):
        due = self.some_deeds()
        self.assert_refused(NotSigned, self.court.lane, "anna", "bert", left_coins=1)
        self.assert_refused(Settled, self.court.tell, (0, 0, 30, 20, ()))
        self.assert_refused(NoSecret, self.court.show, -1)
        self.assert_refused(NoLane, self.court.stand, 7)
        everything(self.court)
        self.assertEqual(self.court.rows(), due)

    def test_told_rows_that_are_changed(self):
        due = self.some_deeds()
        rows, again = self.court.rows(), self.court.rows()
        for _, paid in rows:
            paid.append(("anna", 5))
            paid.reverse()
        self.assertEqual(again, due)
        rows.clear()
        self.assertEqual(self.court.rows(), due)
        lists = [paid for told in (again, self.court.rows()) for _, paid in told]
        self.assertEqual(len({id(paid) for paid in lists}), len(lists))

    def test_coins_behind_every_deed(self):
        deeds = [self.opened, lambda: self.told(0, 2, 20, 26, ((1, "left", 4, 7, 4),)), lambda: self.court.show(5),
                 self.court.turn, self.court.turn, self.court.turn, self.court.turn, self.court.turn]
        for deed in deeds:
            deed()
            self.assertEqual((self.court.coins(), self.all_coins()), (230, 230))
        self.assertEqual(self.court.held(), [])


class ErrorTest(CourtTest):
    def test_what_is_handed_in_stays_as_it_is(self):
        things = [[1, 2], {"a": 1}, [(0, 0, 30, 20, ())], BELOW_0[:3]]
        shown = repr(things)
        for thing in things:
            for asked in (self.court.tell, self.court.show, self.court.stand, self.court.purse, self.court.shown):
                with self.assertRaises(CoinError):
                    asked(thing)
            with self.assertRaises(CoinError):
                Court(Signs(), purses=thing)
        self.assertEqual(repr(things), shown)


if __name__ == "__main__":
    unittest.main()
