"""Points 24, 26 and 27: which letters a keeper takes, and what it proposes."""

import unittest

from coinlanes.errors import NoLetter, NoStep, NotSigned, NotYours
from coinlanes.seals import seal_of
from things import ANY, FORTY, GREATEST, NO_NAMES, NO_POSITIVE, NO_WHOLE, TwoLanesTest, with_part

SEALS = [seal_of(secret) for secret in range(60)]
S = SEALS[7]
PASS = ("pass",)


class LaneTest(TwoLanesTest):
    def given(self, amount=20, last=20):
        """Anna gives a lock of her own on lane 1; it stands in the newest state, and it is carl's turn."""
        told = self.keeper.pay(((1, amount, last),), seal=S)
        self.assertEqual(told, [("carl", ("next", 1, 1, ("lock", "left", amount, S, last), ()))])
        self.assertEqual(self.accept(1), [])

    def handed(self, amount=50, last=20, onward=(1, 40, 9)):
        """A lock for anna on lane 0 is handed on on lane 1, where it is pending."""
        told = self.offer(0, amount, S, last, (onward,))
        self.assertEqual(told, [("carl", ("next", 1, 1, ("lock", "left", onward[1], S, onward[2]), ()))])

    def refused(self, kind, lane, step, more=()):
        self.assert_refused(kind, self.hear, lane, self.letter(lane, step, more))


class TakesTest(LaneTest):
    def test_a_pay_and_a_lock_of_the_other_side(self):
        self.assertEqual(self.propose(0, ("pay", "left", 100)), [])
        self.assertEqual(self.keeper.newest(0), (0, 1, 0, 200, ()))
        self.pass_on(1)
        told = self.propose(1, ("lock", "right", 100, S, 9))
        self.assertEqual(self.keeper.newest(1), (1, 2, 100, 0, ((2, "right", 100, S, 9),)))
        self.assertEqual(told, [("carl", ("next", 1, 3, ("drop", 2), ()))])

    def test_not_such_as_its_own_side_gives(self):
        self.refused(NoStep, 0, ("pay", "right", 1))
        self.refused(NoStep, 0, ("lock", "right", 1, S, 9))
        self.pass_on(1)
        self.refused(NoStep, 1, ("pay", "left", 1))
        self.refused(NoStep, 1, ("lock", "left", 1, S, 9))
        self.propose(0, PASS)

    def test_a_pass(self):
        self.assertEqual(self.propose(0, PASS), [])
        self.assertEqual(self.keeper.newest(0), (0, 1, 100, 100, ()))

    def test_hops_that_go_along_with_other_steps(self):
        for step in (PASS, ("pay", "left", 1)):
            self.setUp()
            self.assertEqual(self.propose(0, step, ((1, 5, 9),)), [])

    def test_a_fold_of_a_lock_for_its_side(self):
        for turns in (0, 30):
            self.setUp()
            self.handed()
            self.pass_on(0)
            # Also of a dead one: it is a gain.
            self.turns(turns)
            self.propose(0, ("fold", 1, 7))
            self.assertEqual(self.keeper.newest(0), (0, 3, 50, 150, ()))

    def test_a_fold_of_a_lock_that_it_gave(self):
        for turns in (0, 20):
            self.setUp()
            self.given()
            self.turns(turns)
            self.assertEqual(self.propose(1, ("fold", 1, 7)), [])
            self.assertEqual(self.keeper.newest(1), (1, 2, 80, 120, ()))
            self.assertEqual(self.keeper.receipts(), [(S, 7, 20)])

    def test_not_of_a_dead_one(self):
        self.given()
        self.turns(21)
        self.refused(NoStep, 1, ("fold", 1, 7))
        self.assertIsNone(self.keeper.secret(S))
        # Shown too late.
        self.court.show(7)
        self.refused(NoStep, 1, ("fold", 1, 7))

    def test_of_one_whose_seal_was_shown_by_its_last(self):
        self.given()
        for _ in range(20):
            self.court.turn()
        self.court.show(7)
        self.turns(5)
        self.propose(1, ("fold", 1, 7))
        self.assertEqual(self.keeper.newest(1)[2:], (80, 120, ()))

    def test_a_drop_of_a_lock_that_it_gave(self):
        for turns in (0, 30):
            self.setUp()
            self.given()
            self.turns(turns)
            self.propose(1, ("drop", 1))
            self.assertEqual(self.keeper.newest(1), (1, 2, 100, 100, ()))

    def test_a_drop_of_a_dead_lock_for_its_side(self):
        self.handed()
        self.accept(1)
        self.pass_on(0)
        self.turns(20)
        self.court.turn()
        self.assertEqual(self.propose(0, ("drop", 1)), [])
        self.assertEqual(self.keeper.newest(0), (0, 3, 100, 100, ()))

    def test_a_drop_of_a_lock_that_it_will_hand_on(self):
        self.pass_on(1)
        self.assertEqual(self.offer(0, 50, S, 20, ((1, 40, 9),)), [("carl", ("turn", 1))])
        self.pass_on(0)
        self.assertEqual(self.propose(0, ("drop", 1)), [])
        # It hands nothing on any more.
        self.assertEqual(self.propose(1, PASS), [])

    def test_not_of_one_that_it_claims(self):
        self.handed()
        self.pass_on(0)
        self.court.show(7)
        self.refused(NoStep, 0, ("drop", 1))

    def test_not_of_one_that_it_handed_on(self):
        self.handed()
        self.pass_on(0)
        self.refused(NoStep, 0, ("drop", 1))
        self.accept(1)
        self.refused(NoStep, 0, ("drop", 1))
        self.turns(9)
        self.refused(NoStep, 0, ("drop", 1))

    def test_of_one_whose_onward_lock_is_dead(self):
        self.handed()
        self.accept(1)
        self.pass_on(0)
        self.turns(10)
        self.propose(0, ("drop", 1))
        self.assertEqual(self.keeper.newest(0), (0, 3, 100, 100, ()))

    def test_of_one_whose_onward_lock_is_gone(self):
        self.handed()
        self.accept(1)
        self.pass_on(0)
        self.refused(NoStep, 0, ("drop", 1))
        self.assertEqual(self.propose(1, ("drop", 1)), [("bert", ("turn", 0))])
        self.propose(0, ("drop", 1))
        self.assertEqual(self.keeper.newest(0), (0, 3, 100, 100, ()))

    def test_not_while_a_pending_state_of_the_other_lane_has_it(self):
        self.handed()
        self.pass_on(0)
        self.assertEqual(self.keeper.newest(1)[4], ())
        self.refused(NoStep, 0, ("drop", 1))
        # Nor where that lane was settled without it.
        self.court.tell((1, 0, 100, 100, ()))
        self.turns(self.WAIT)
        self.assertEqual(self.court.stand(1)[0], "settled")
        self.refused(NoStep, 0, ("drop", 1))
        self.turns(9 - self.WAIT + 1)
        self.propose(0, ("drop", 1))

    def test_not_while_the_court_holds_it(self):
        self.handed(last=30, onward=(1, 40, 15))
        self.accept(1)
        self.pass_on(0)
        old = self.keeper.newest(1)
        self.assertEqual(self.propose(1, ("drop", 1)), [("bert", ("turn", 0))])
        self.court.tell(old)
        for _ in range(self.WAIT):
            self.court.turn()
        self.assertEqual(self.court.held(), [(1, old[4][0])])
        self.refused(NoStep, 0, ("drop", 1))
        for _ in range(16 - self.WAIT):
            self.court.turn()
        self.assertEqual(self.court.held(), [])
        self.propose(0, ("drop", 1))

    def test_folded_onward_it_is_claimed(self):
        self.handed()
        self.accept(1)
        self.pass_on(0)
        self.assertEqual(self.propose(1, ("fold", 1, 7)), [("bert", ("turn", 0))])
        self.refused(NoStep, 0, ("drop", 1))
        self.assertEqual(self.propose(0, PASS), [("bert", ("next", 0, 4, ("fold", 1, 7), ()))])


class RefusesTest(LaneTest):
    def test_no_letter_of_anything(self):
        good = self.letter(0, PASS)
        bad = ANY + [list(good), good[:4], good + ((),), ("done", 0), ("done", 0, 1, 1), ("turn",), ("turn", 0, 1),
                     ["turn", 0], ("Turn", 0), ("open", 0), (0, "turn"), ("next", 0, 1, PASS, [])]
        bad += [with_part(good, place, part) for place in (1, 2) for part in NO_WHOLE]
        bad += [with_part(good, 3, part) for part in (None, ["pass"], (), ("pay",), ("drop", 0), ("fold", 1, True))]
        bad += [with_part(good, 4, ((1, part, 9),)) for part in NO_POSITIVE]
        bad += [(word, lane) + rest for word, rest in (("turn", ()), ("done", (1,))) for lane in NO_WHOLE]
        bad += [("done", 0, number) for number in NO_WHOLE]
        for letter in bad:
            self.assert_refused(NoLetter, self.keeper.hear, "bert", letter)
            self.assert_refused(NoLetter, self.keeper.hear, letter, letter)
        self.hear(0, good)

    def test_of_no_lane_of_its(self):
        self.sign_all(("open", 2, "bert", "carl", 5, 5))
        self.court.lane("bert", "carl", left_coins=5, right_coins=5)
        self.signs.sign("bert", (2, 1, 5, 5, ()))
        for lane in (2, 3, 9, GREATEST, FORTY):
            for letter in (("turn", lane), ("done", lane, 1), ("next", lane, 1, PASS, ())):
                self.assert_refused(NoLetter, self.keeper.hear, "bert", letter)

    def test_of_another_hand(self):
        good = self.letter(0, PASS)
        for hand in NO_NAMES + ["anna", "carl", "dora", "emil"]:
            for letter in (good, ("turn", 0), ("done", 0, 1)):
                self.assert_refused(NoLetter, self.keeper.hear, hand, letter)
        self.keeper.give(1, 5)
        self.signs.sign("carl", self.keeper.pending(1))
        self.assert_refused(NoLetter, self.keeper.hear, "bert", ("done", 1, 1))
        self.keeper.hear("carl", ("done", 1, 1))
        self.keeper.hear("bert", good)

    def test_of_a_lane_that_is_not_open(self):
        good = self.letter(0, PASS)
        self.keeper.give(1, 5)
        self.signs.sign("carl", self.keeper.pending(1))
        self.court.tell((0, 0, 100, 100, ()))
        self.court.tell((1, 0, 100, 100, ()))
        for _ in range(2):
            for lane, letter in ((0, good), (0, ("turn", 0)), (1, ("done", 1, 1)), (1, ("turn", 1))):
                self.assert_refused(NoLetter, self.hear, lane, letter)
            self.turns(self.WAIT)
        self.assertEqual(self.court.stand(0)[0], "settled")

    def test_as_its_end_refuses(self):
        self.keeper.give(1, 5)
        for letter in (("next", 1, 1, PASS, ()), ("next", 1, 2, PASS, ()), ("next", 1, 9, ("drop", 3), ())):
            self.assert_refused(NotYours, self.hear, 1, letter)
        for number in (0, 2, 3, GREATEST):
            self.assert_refused(NoLetter, self.hear, 0, ("next", 0, number, ("pay", "left", 500), ()))
            self.assert_refused(NoLetter, self.hear, 1, ("done", 1, number))
        for step in (("pay", "left", 101), ("drop", 1), ("fold", 1, 7), ("pay", "right", 101)):
            self.assert_refused(NoStep, self.hear, 0, ("next", 0, 1, step, ()))
        self.assert_refused(NotSigned, self.hear, 0, ("next", 0, 1, PASS, ()))
        self.assert_refused(NotSigned, self.hear, 1, ("done", 1, 1))
        self.assert_refused(NoLetter, self.hear, 0, ("done", 0, 1))

    def test_not_signed_ahead_of_no_step_of_its_own(self):
        for step in (("pay", "right", 1), ("lock", "right", 1, S, 9)):
            self.assert_refused(NotSigned, self.hear, 0, ("next", 0, 1, step, ()))
            self.refused(NoStep, 0, step)

    def test_refused_it_stays_refused_till_things_change(self):
        self.handed()
        self.accept(1)
        self.pass_on(0)
        letter = self.letter(0, ("drop", 1))
        self.assert_refused(NoStep, self.hear, 0, letter)
        self.assert_refused(NoStep, self.hear, 0, letter)
        self.propose(1, ("drop", 1))
        self.assertEqual(self.hear(0, letter), [("bert", ("done", 0, 3))])


class FoldTest(LaneTest):
    def test_a_lock_that_it_billed(self):
        for amount in (30, 31):
            self.setUp()
            self.keeper.bill(7, amount=30)
            self.assertEqual(self.offer(0, amount, S, 20), [("bert", ("next", 0, 2, ("fold", 1, 7), ()))])
            self.assertEqual(self.accept(0), [])
            self.assertEqual(self.keeper.newest(0), (0, 2, 100 - amount, 100 + amount, ()))

    def test_not_for_less_than_billed(self):
        self.keeper.bill(7, amount=30)
        self.assertEqual(self.offer(0, 29, S, 20), [("bert", ("next", 0, 2, ("drop", 1), ()))])
        # Nor is it handed on.
        self.setUp()
        self.keeper.bill(7, amount=30)
        self.assertEqual(self.offer(0, 29, S, 20, ((1, 5, 9),)), [("bert", ("next", 0, 2, ("drop", 1), ()))])

    def test_for_less_where_the_seal_was_shown(self):
        self.keeper.bill(7, amount=30)
        self.court.show(7)
        self.assertEqual(self.offer(0, 29, S, 20), [("bert", ("next", 0, 2, ("fold", 1, 7), ()))])

    def test_a_secret_that_it_did_not_bill_is_worth_any_amount(self):
        self.given()
        self.propose(1, ("fold", 1, 7))
        self.assertEqual(self.offer(0, 1, S, 20), [("bert", ("next", 0, 2, ("fold", 1, 7), ()))])

    def test_just_not_dead(self):
        for turns, word in ((4, "fold"), (5, "drop")):
            self.setUp()
            self.keeper.bill(7)
            self.turns(turns)
            self.assertEqual(self.offer(0, 5, S, 4)[0][1][3][0], word)

    def test_shown_by_its_last_it_is_never_dead(self):
        for turns, word in ((4, "fold"), (5, "drop")):
            self.setUp()
            self.turns(turns)
            self.court.show(7)
            self.turns(6)
            self.assertEqual(self.offer(0, 5, S, 4)[0][1][3][0], word)

    def test_asked_for_where_the_other_side_proposes(self):
        self.handed()
        self.pass_on(0)
        self.court.show(7)
        self.assertEqual(self.keeper.wake(), [("bert", ("turn", 0))])
        self.assertEqual(self.keeper.wake() + self.turns(1), [])
        self.assertEqual(self.propose(0, PASS), [("bert", ("next", 0, 4, ("fold", 1, 7), ()))])

    def test_not_on_a_lane_that_is_closing(self):
        self.handed()
        self.pass_on(0)
        self.propose(0, PASS)
        self.court.tell(self.keeper.newest(0))
        self.court.show(7)
        self.assertEqual(self.keeper.wake(), [])


class HandOnTest(LaneTest):
    def assert_handed_on(self, amount, last, onward, more=()):
        told = self.offer(0, amount, S, last, (onward,) + more)
        self.assertEqual(told, [("carl", ("next", 1, 1, ("lock", "left", onward[1], S, onward[2]), more))])

    def assert_dropped(self, amount, last, onward):
        told = self.offer(0, amount, S, last, (onward,))
        self.assertEqual(told, [("bert", ("next", 0, 2, ("drop", 1), ()))])

    def test_with_the_rest_of_its_way(self):
        for more in ((), ((5, 30, 6),), tuple((lane, 3, 4) for lane in range(39))):
            self.setUp()
            self.assert_handed_on(50, 20, (1, 40, 9), more)
            self.assertEqual(self.keeper.pending(1)[4], ((1, "left", 40, S, 9),))
            self.assertEqual(self.keeper.surely(), 1000)

    def test_its_fee(self):
        # One flat, and a tenth of what is handed on, cut down.
        for amount, onward, handed in ((45, 40, True), (44, 40, False), (44, 39, True), (1, 1, False), (2, 1, True)):
            self.setUp()
            if handed:
                self.assert_handed_on(amount, 20, (1, onward, 9))
            else:
                self.assert_dropped(amount, 20, (1, onward, 9))

    def test_no_fee_at_all(self):
        self.TAKES = (0, 0)
        self.setUp()
        self.assert_handed_on(40, 20, (1, 40, 9))
        self.setUp()
        self.assert_dropped(40, 20, (1, 41, 9))

    def test_its_gap(self):
        for gap in (1, 2, 4):
            self.GAP = gap
            self.setUp()
            self.assert_handed_on(50, 9 + gap, (1, 40, 9))
            self.setUp()
            self.assert_dropped(50, 8 + gap, (1, 40, 9))

    def test_a_last_above_this_turn(self):
        self.turns(6)
        self.assert_handed_on(50, 20, (1, 40, 7))
        for last in (6, 0):
            self.setUp()
            self.turns(6)
            self.assert_dropped(50, 20, (1, 40, last))

    def test_its_share_there(self):
        for share, handed in ((40, True), (39, False)):
            self.setUp()
            self.keeper.give(1, 100 - share)
            self.accept(1)
            self.pass_on(1)
            told = self.offer(0, 50, S, 20, ((1, 40, 9),))
            self.assertEqual(told[0][1][3][0], "lock" if handed else "drop")

    def test_what_waits_to_be_paid_there_is_no_hindrance(self):
        self.pass_on(1)
        self.keeper.give(1, 80)
        self.assertEqual(self.offer(0, 50, S, 20, ((1, 40, 9),)), [])
        words = [self.propose(1, PASS)[0][1][3][0]]
        words += [letter[3][0] for _, letter in self.accept(1) if letter[0] == "next"]
        self.assertIn(words, (["lock"], ["pay", "drop"]))

    def test_thirty_locks_there(self):
        for many, handed in ((29, True), (30, False)):
            self.setUp()
            for seal in range(1, many + 1):
                self.keeper.pay(((1, 1, 40),), seal=seal)
                self.accept(1)
                self.pass_on(1)
            told = self.offer(0, 50, S, 20, ((1, 40, 9),))
            self.assertEqual(told[0][1][3][0], "lock" if handed else "drop")

    def test_no_such_lane(self):
        for lane in (0, 2, 9, GREATEST, FORTY):
            self.setUp()
            self.assert_dropped(50, 20, (lane, 40, 9))
        self.setUp()
        self.sign_all(("open", 2, "bert", "carl", 500, 500))
        self.court.lane("bert", "carl", left_coins=500, right_coins=500)
        self.assert_dropped(50, 20, (2, 40, 9))

    def test_lanes_that_are_open_no_more(self):
        self.court.tell((1, 0, 100, 100, ()))
        self.assert_dropped(50, 20, (1, 40, 9))
        self.setUp()
        # The lane on which it came closes ahead of its being handed on.
        self.pass_on(1)
        self.assertEqual(self.offer(0, 50, S, 20, ((1, 40, 9),)), [("carl", ("turn", 1))])
        self.court.tell(self.keeper.newest(0))
        self.assertEqual(self.propose(1, PASS), [])

    def test_the_secret_is_known(self):
        self.court.show(7)
        told = self.offer(0, 50, S, 20, ((1, 40, 9),))
        self.assertEqual(told, [("bert", ("next", 0, 2, ("fold", 1, 7), ()))])

    def test_asked_for_and_handed_on_when_it_is_its_turn(self):
        self.pass_on(1)
        self.assertEqual(self.offer(0, 50, S, 20, ((1, 40, 9), (8, 30, 7))), [("carl", ("turn", 1))])
        self.assertEqual(self.keeper.wake(), [])
        due = [("carl", ("next", 1, 3, ("lock", "left", 40, S, 9), ((8, 30, 7),)))]
        self.assertEqual(self.propose(1, PASS), due)

    def test_no_more_when_it_is_its_turn_at_last(self):
        self.pass_on(1)
        self.assertEqual(self.offer(0, 50, S, 20, ((1, 40, 3),)), [("carl", ("turn", 1))])
        told = self.turns(3)
        self.assertEqual(told, [("bert", ("next", 0, 2, ("drop", 1), ()))])
        self.assertEqual(self.propose(1, PASS), [])

    def test_handed_on_once(self):
        self.assert_handed_on(50, 20, (1, 40, 9))
        self.assertEqual(self.accept(1) + self.keeper.wake() + self.turns(1), [])
        self.assertEqual(self.pass_on(1), [])
        self.assertEqual(self.keeper.wake(), [])
        # Gone back, it is not handed on again.
        self.pass_on(1)
        self.assertEqual(self.propose(1, ("drop", 1)), [("bert", ("next", 0, 2, ("drop", 1), ()))])

    def test_several_one_behind_the_other(self):
        self.assert_handed_on(50, 20, (1, 40, 9))
        self.pass_on(0)
        self.assertEqual(self.offer(0, 40, SEALS[8], 20, ((1, 30, 9),)), [])
        self.assertEqual(self.accept(1), [("carl", ("turn", 1))])
        due = [("carl", ("next", 1, 3, ("lock", "left", 30, SEALS[8], 9), ()))]
        self.assertEqual(self.propose(1, PASS), due)
        self.assertEqual(len(self.keeper.pending(1)[4]), 2)

    def test_not_where_its_pending_state_has_it_no_more(self):
        # Without the means it proposes to drop the lock; the means come while that is pending.
        self.keeper.give(1, 100)
        self.accept(1)
        self.assertEqual(self.offer(0, 50, S, 20, ((1, 40, 9),)), [("bert", ("next", 0, 2, ("drop", 1), ()))])
        self.assertEqual(self.propose(1, ("pay", "right", 90)), [])
        self.assertEqual(self.keeper.wake(), [])
        self.assertEqual(self.accept(0) + self.keeper.wake(), [])

    def test_a_lock_that_it_is_the_last_to_get(self):
        self.assertEqual(self.offer(0, 50, S, 20), [("bert", ("next", 0, 2, ("drop", 1), ()))])

    def test_back_and_forth_between_the_same_hands(self):
        self.lane("anna", "bert")
        told = self.offer(0, 50, S, 20, ((2, 40, 9),))
        self.assertEqual(told, [("bert", ("next", 2, 1, ("lock", "left", 40, S, 9), ()))])


class GoBackTest(LaneTest):
    def test_a_fold_goes_back_along_the_way(self):
        self.handed()
        self.accept(1)
        self.assertEqual(self.propose(1, ("fold", 1, 7)), [("bert", ("next", 0, 2, ("fold", 1, 7), ()))])
        self.assertEqual(self.accept(0), [])
        self.assertEqual((self.keeper.newest(0)[2:], self.keeper.newest(1)[2:]), ((50, 150, ()), (60, 140, ())))
        self.assertEqual((self.keeper.surely(), self.keeper.receipts()), (1010, []))

    def test_a_drop_goes_back_along_the_way(self):
        self.handed()
        self.accept(1)
        self.assertEqual(self.propose(1, ("drop", 1)), [("bert", ("next", 0, 2, ("drop", 1), ()))])
        self.assertEqual(self.accept(0), [])
        self.assertEqual((self.keeper.newest(0)[2:], self.keeper.newest(1)[2:]), ((100, 100, ()), (100, 100, ())))

    def test_dead_onward_it_drops_both(self):
        self.handed()
        self.accept(1)
        self.turns(9)
        self.court.turn()
        self.assertEqual(self.keeper.wake(), [("bert", ("next", 0, 2, ("drop", 1), ())), ("carl", ("turn", 1))])
        self.assertEqual(self.propose(1, PASS), [("carl", ("next", 1, 3, ("drop", 1), ()))])

    def test_not_while_the_onward_lock_is_alive(self):
        self.handed()
        self.accept(1)
        self.assertEqual(self.turns(9), [])
        self.assertEqual(self.hear(0, ("turn", 0)), [("bert", ("next", 0, 2, PASS, ()))])

    def test_not_while_the_court_holds_the_onward_lock(self):
        self.handed(last=30, onward=(1, 40, 15))
        self.accept(1)
        old = self.keeper.newest(1)
        self.pass_on(0)
        self.assertEqual(self.propose(1, ("drop", 1)), [("bert", ("turn", 0))])
        self.court.tell(old)
        for _ in range(self.WAIT):
            self.court.turn()
        self.assertEqual(self.propose(0, PASS), [])
        for _ in range(15 - self.WAIT):
            self.court.turn()
        self.assertEqual(self.keeper.wake(), [])
        self.court.turn()
        self.assertEqual(self.keeper.wake(), [("bert", ("next", 0, 4, ("drop", 1), ()))])

    def test_the_onward_lane_settled_without_it(self):
        self.handed(last=30, onward=(1, 40, 15))
        # Carl never takes it, and the lane ends without it: it may count till it is dead.
        self.keeper.shut(1)
        self.assertEqual(self.turns(15), [])
        self.assertEqual(self.court.stand(1)[0], "settled")
        self.assertEqual(self.turns(1), [("bert", ("next", 0, 2, ("drop", 1), ()))])

    def test_a_dead_lock_of_its_own(self):
        self.given(last=3)
        self.assertEqual(self.turns(3), [])
        self.assertEqual(self.turns(1), [("carl", ("turn", 1))])
        self.assertEqual(self.propose(1, PASS), [("carl", ("next", 1, 3, ("drop", 1), ()))])
        self.accept(1)
        self.assertEqual(self.keeper.newest(1)[2:], (100, 100, ()))

    def test_shown_by_its_last_it_is_not_dropped(self):
        self.given(last=3)
        for _ in range(3):
            self.court.turn()
        self.court.show(7)
        self.assertEqual(self.turns(4), [])

    def test_a_dead_lock_for_its_side_that_was_handed_on(self):
        self.handed(last=11, onward=(1, 40, 9))
        self.pass_on(0)
        self.accept(1)
        self.turns(11)
        # Also where its secret comes too late.
        self.court.turn()
        self.court.show(7)
        self.assertEqual(self.propose(0, PASS)[0], ("bert", ("next", 0, 4, ("drop", 1), ())))


class TurnTest(LaneTest):
    def test_a_pass_where_it_was_asked(self):
        self.assertEqual(self.keeper.wake(), [])
        self.assertEqual(self.hear(1, ("turn", 1)), [("carl", ("next", 1, 1, PASS, ()))])
        self.assertEqual(self.hear(1, ("turn", 1)), [])
        self.accept(1)
        self.assertEqual(self.keeper.newest(1), (1, 1, 100, 100, ()))

    def test_what_it_wants_goes_ahead_of_a_pass(self):
        self.given(last=3)
        self.propose(1, PASS)
        for _ in range(4):
            self.court.turn()
        self.assertEqual(self.hear(1, ("turn", 1)), [("carl", ("next", 1, 3, ("drop", 1), ()))])

    def test_a_gift_in_the_place_of_a_pass(self):
        self.pass_on(1)
        self.assertEqual(self.keeper.give(1, 6), [("carl", ("turn", 1))])
        self.hear(1, ("turn", 1))
        self.assertEqual(self.propose(1, PASS), [("carl", ("next", 1, 3, ("pay", "left", 6), ()))])

    def test_kept_in_mind_for_this_newest_state_alone(self):
        self.assertEqual(self.hear(0, ("turn", 0)), [])
        self.assertEqual(self.propose(0, PASS), [])
        self.assertEqual(self.keeper.wake(), [])
        self.assertEqual(self.hear(0, ("turn", 0)), [("bert", ("next", 0, 2, PASS, ()))])

    def test_heard_while_a_state_is_pending(self):
        self.keeper.give(1, 5)
        self.assertEqual(self.hear(1, ("turn", 1)), [])
        self.assertEqual(self.accept(1), [])
        self.assertEqual(self.propose(1, PASS), [])

    def test_put_out_once_for_each_newest_state(self):
        self.assertEqual(self.keeper.give(0, 5), [("bert", ("turn", 0))])
        self.assertEqual(self.keeper.give(0, 6) + self.keeper.wake() + self.turns(3) + self.hear(0, ("turn", 0)), [])
        self.assertEqual(self.propose(0, PASS)[0][1][0], "next")
        self.assertEqual(self.accept(0), [("bert", ("turn", 0))])
        self.assertEqual(self.keeper.wake(), [])

    def test_asked_of_each_lane_by_itself(self):
        self.pass_on(1)
        self.assertEqual(self.keeper.give(0, 5), [("bert", ("turn", 0))])
        self.assertEqual(self.keeper.give(1, 5), [("carl", ("turn", 1))])

    def test_not_on_a_lane_that_is_closing(self):
        self.handed()
        self.pass_on(0)
        self.court.tell(self.keeper.newest(0))
        self.court.show(7)
        self.assertEqual([letter for _, letter in self.keeper.wake() if letter[1] == 0], [])

    def test_nothing_where_it_wants_nothing(self):
        self.assertEqual(self.keeper.wake(), [])
        self.assertEqual(self.propose(0, ("pay", "left", 5)), [])
        self.assertEqual(self.turns(3), [])


class NothingTwiceTest(LaneTest):
    def test_nothing_is_proposed_while_a_state_is_pending(self):
        self.keeper.give(1, 5)
        self.assertEqual(self.keeper.give(1, 5) + self.keeper.wake() + self.turns(3), [])
        self.keeper.bill(7)
        self.assertEqual(len(self.offer(0, 5, S, 30)), 1)
        self.assertEqual(self.keeper.wake() + self.turns(3), [])

    def test_lanes_rising_behind_a_done(self):
        self.lane("anna", "dora")
        self.lane("dora", "anna")
        self.keeper.give(1, 5)
        self.pass_on(2)
        self.signs.sign("carl", self.keeper.pending(1))
        self.keeper.hear("carl", ("done", 1, 1))
        self.keeper.give(3, 5)
        self.offer(3, 50, S, 20, ((1, 40, 9),))
        self.turns(1)
        told = self.offer(0, 20, SEALS[8], 20, ((2, 10, 9),))
        self.assertEqual([letter[:2] for _, letter in told], [("turn", 2)])
        letters = self.hear(2, self.letter(2, PASS))
        due = [("dora", ("done", 2, 2)), ("dora", ("next", 2, 3, ("lock", "left", 10, SEALS[8], 9), ()))]
        self.assertEqual(letters, due)

    def test_one_look_puts_out_on_several_lanes(self):
        self.lane("anna", "dora")
        self.lane("dora", "anna")
        self.given(last=6)
        for lane, last in ((2, 6), (3, 6)):
            self.keeper.pay(((lane, 5, last),), seal=lane)
        self.accept(2)
        self.propose(3, PASS)
        self.accept(3)
        self.pass_on(1)
        for _ in range(7):
            self.court.turn()
        due = [("carl", ("next", 1, 3, ("drop", 1), ())), ("dora", ("turn", 2)), ("dora", ("turn", 3))]
        self.assertEqual(self.hear(0, ("turn", 0)), due)
        told = self.hear(3, self.letter(3, PASS))
        self.assertEqual(told, [("dora", ("done", 3, 3)), ("dora", ("next", 3, 4, ("drop", 2), ()))])


if __name__ == "__main__":
    unittest.main()
