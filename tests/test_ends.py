"""Points 15 to 19: one end of a lane, and the letters between two of them."""

import inspect
import random
import unittest

from coinlanes.ends import End
from coinlanes.errors import CoinError, NoLetter, NoStep, NotSigned, NotYours, Waiting
from coinlanes.seals import seal_of
from coinlanes.signs import Signs
from coinlanes.states import next_state, worth
from things import ANY, FORTY, GREATEST, NO_POSITIVE, NO_WHOLE, with_part

HANDS = ("anna", "bert")
FIRST = (4, 0, 30, 20, ())
SEAL = seal_of(7)
LOCK = ("lock", "left", 5, SEAL, 9)
PASS = ("pass",)
HOPS = ((6, 4, 8), (0, 1, 0), (GREATEST, GREATEST, GREATEST))
NO_STEPS = ANY + [
    (), ("pay",), ("pay", "left"), ("pay", "left", 0), ("pay", "left", 1, 1), ["pass"], ("Pass",), ("pass", 1),
    ("lock", "left", 5, 3), ("lock", "left", 0, 3, 9), ("fold", 1), ("fold", 0, 7), ("drop",), ("drop", 0),
    ("drop", True), ("fold", 1, -1), ("pay", "both", 3), ("open",), ("next", "pass"), (("pass",),),
]
NO_HOPS = ANY[:30] + [
    [], [(6, 4, 8)], ((6, 4),), ((6, 4, 8, 1),), ([6, 4, 8],), (6, 4, 8), ((6, 4, 8), ()), ((6, 4, 8), None),
] + [(with_part((6, 4, 8), 1, part),) for part in NO_POSITIVE] + [
    ((6, 4, 8), with_part((6, 4, 8), place, part)) for place in (0, 2) for part in NO_WHOLE]
# () is no odd thing here: it is hops.
NO_HOPS = [thing for thing in NO_HOPS if thing != ()]


class EndTest(unittest.TestCase):
    def setUp(self):
        self.signs = Signs()
        self.left = End(self.signs, "left", HANDS, FIRST)
        self.right = End(self.signs, "right", HANDS, FIRST)

    def told(self, end):
        return end.newest(), end.pending(), end.proposes(), end.may_count()

    def everything(self):
        return [self.told(end) for end in (self.left, self.right)] + [self.signs.papers(hand) for hand in HANDS]

    def assert_refused(self, kind, asked, *told, **named):
        before = self.everything()
        with self.assertRaises(CoinError) as caught:
            asked(*told, **named)
        self.assertIs(type(caught.exception), kind)
        self.assertEqual(self.everything(), before)

    def assert_not_heard(self, kind, end, letter):
        self.assert_refused(kind, end.look, letter)
        self.assert_refused(kind, end.take, letter)

    def go(self, step, more=()):
        """The side whose turn it is proposes, and the other one takes it."""
        giver, other = (self.left, self.right) if self.left.proposes() else (self.right, self.left)
        giver.done(other.take(giver.propose(step, more=more)))


class FirstTest(EndTest):
    def test_at_first(self):
        self.assertEqual(self.told(self.left), (FIRST, None, True, [FIRST]))
        self.assertEqual(self.told(self.right), (FIRST, None, False, [FIRST]))
        self.assertEqual(self.signs.papers("anna") + self.signs.papers("bert"), [])

    def test_which_side_proposes(self):
        for number in range(6):
            self.assertIs(self.left.proposes(), number in (0, 2, 4))
            self.assertIs(self.right.proposes(), number in (1, 3, 5))
            self.assertEqual(self.left.newest()[1], number)
            self.go(PASS)

    def test_may_count_is_a_new_list_each_time(self):
        self.left.may_count().append(7)
        self.assertEqual(self.left.may_count(), [FIRST])
        self.left.propose(PASS)
        one, other = self.left.may_count(), self.left.may_count()
        self.assertIsNot(one, other)
        self.assertIs(type(one), list)
        one.clear()
        self.assertEqual(self.left.may_count(), [FIRST, (4, 1, 30, 20, ())])


class ProposeTest(EndTest):
    def test_each_word_part_by_part(self):
        cases = [
            (("pay", "left", 6), (4, 1, 24, 26, ())), (("pay", "right", 20), (4, 1, 50, 0, ())),
            (LOCK, (4, 1, 25, 20, ((1, "left", 5, SEAL, 9),))), (PASS, (4, 1, 30, 20, ())),
            (("lock", "right", 20, 0, 0), (4, 1, 30, 0, ((1, "right", 20, 0, 0),))),
        ]
        for step, due in cases:
            self.setUp()
            letter = self.left.propose(step)
            self.assertEqual(letter, ("next", 4, 1, step, ()))
            self.assertIs(type(letter), tuple)
            self.assertEqual(self.told(self.left), (FIRST, due, True, [FIRST, due]))
            self.assertEqual((self.signs.papers("anna"), self.signs.papers("bert")), ([due], []))

    def test_fold_and_drop(self):
        for step, due in [(("fold", 1, 7), (4, 3, 25, 25, ())), (("drop", 1), (4, 3, 30, 20, ()))]:
            self.setUp()
            self.go(LOCK)
            self.go(PASS)
            self.assertEqual(self.left.propose(step), ("next", 4, 3, step, ()))
            self.assertEqual(self.left.pending(), due)
            self.assertIs(self.signs.signed("anna", due), True)
            self.assertIs(self.signs.signed("bert", due), False)

    def test_more_with_none_one_and_forty_hops(self):
        forty = tuple((lane, lane + 1, lane + 2) for lane in range(40))
        for more in ((), HOPS[:1], HOPS, forty):
            self.setUp()
            letter = self.left.propose(LOCK, more=more)
            self.assertEqual(letter, ("next", 4, 1, LOCK, more))
            self.assertEqual(self.right.look(letter), self.left.pending())
            self.assertEqual(self.right.take(letter), ("done", 4, 1))

    def test_not_yours_waiting_no_step_in_this_order(self):
        for step in [PASS] + NO_STEPS:
            self.assert_refused(NotYours, self.right.propose, step)
        for step in NO_STEPS + [("pay", "left", 31), ("drop", 1), ("fold", 1, 7), ("lock", "right", 21, 1, 1)]:
            self.assert_refused(NoStep, self.left.propose, step)
        letter = self.left.propose(LOCK)
        for step in [PASS] + NO_STEPS:
            self.assert_refused(Waiting, self.left.propose, step)
            self.assert_refused(NotYours, self.right.propose, step)
        self.right.take(letter)
        # The right end goes on, while the left one has not heard of it.
        self.right.propose(PASS)
        for step in [PASS] + NO_STEPS:
            self.assert_refused(Waiting, self.left.propose, step)
            self.assert_refused(Waiting, self.right.propose, step)

    def test_no_step_of_what_locks_there_are(self):
        self.go(LOCK)
        self.go(PASS)
        for step in [("fold", 1, 8), ("fold", 2, 7), ("drop", 2), ("pay", "left", 26)]:
            self.assert_refused(NoStep, self.left.propose, step)

    def test_more_than_thirty_locks(self):
        for _ in range(30):
            self.go(("lock", "left", 1, 0, 0))
        self.assert_refused(NoStep, self.left.propose, ("lock", "right", 1, 0, 0))
        self.left.propose(PASS)


class TakeTest(EndTest):
    def test_looking_changes_nothing(self):
        letter = self.left.propose(LOCK, more=HOPS)
        before = self.everything()
        for _ in range(3):
            self.assertEqual(self.right.look(letter), (4, 1, 25, 20, ((1, "left", 5, SEAL, 9),)))
        self.assertEqual(self.everything(), before)

    def test_taking(self):
        letter = self.left.propose(LOCK)
        state = self.left.pending()
        self.assertEqual(self.right.take(letter), ("done", 4, 1))
        self.assertEqual(self.told(self.right), (state, None, True, [state]))
        self.assertEqual(self.told(self.left), (FIRST, state, True, [FIRST, state]))
        self.assertIs(self.signs.signed("bert", state), True)
        self.assertIsNone(self.left.done(("done", 4, 1)))
        self.assertEqual(self.told(self.left), (state, None, False, [state]))

    def test_what_the_other_hand_signed_without_an_end_is_taken(self):
        self.signs.sign("anna", (4, 1, 10, 40, ()))
        self.assertEqual(self.right.take(("next", 4, 1, ("pay", "left", 20), ())), ("done", 4, 1))

    def test_no_letter_at_every_place(self):
        good = self.left.propose(LOCK, more=HOPS)
        bad = ANY + [good[:4], good + ((),), list(good), ("done", 4, 1), ("turn", 4), ()]
        bad += [with_part(good, 0, word) for word in ("Next", "next ", "", "done", "turn", b"next", None, 0, ["next"])]
        bad += [with_part(good, 1, lane) for lane in NO_WHOLE + [0, 3, 5, GREATEST]]
        bad += [with_part(good, 2, number) for number in NO_WHOLE]
        bad += [with_part(good, 3, step) for step in NO_STEPS]
        bad += [with_part(good, 3, list(LOCK)), with_part(good, 4, list(HOPS))]
        bad += [with_part(good, 4, more) for more in NO_HOPS]
        for letter in bad:
            self.assert_not_heard(NoLetter, self.right, letter)
        # Where it stands behind another refusal, too, no letter goes first.
        for letter in bad:
            self.assert_not_heard(NoLetter, self.left, letter)
        self.right.take(good)

    def test_truths_are_no_numbers(self):
        left, right = [End(self.signs, side, HANDS, (1, 0, 5, 5, ())) for side in ("left", "right")]
        good = left.propose(PASS)
        self.assertEqual(good, ("next", 1, 1, PASS, ()))
        for letter in (with_part(good, 1, True), with_part(good, 2, True)):
            with self.assertRaises(NoLetter):
                right.look(letter)
        right.take(good)
        for letter in (("done", True, 1), ("done", 1, True)):
            with self.assertRaises(NoLetter):
                left.done(letter)
        left.done(("done", 1, 1))

    def test_not_yours_ahead_of_number_step_and_signs(self):
        for letter in [("next", 4, 1, PASS, ()), ("next", 4, 7, PASS, ()), ("next", 4, 1, ("pay", "left", 31), ())]:
            self.assert_not_heard(NotYours, self.left, letter)
        self.left.propose(PASS)
        self.assert_not_heard(NotYours, self.left, ("next", 4, 2, PASS, ()))

    def test_the_number_ahead_of_the_step_and_signs(self):
        for number in (0, 2, 3, GREATEST, FORTY):
            for step in (PASS, ("pay", "left", 31), ("drop", 9)):
                self.assert_not_heard(NoLetter, self.right, ("next", 4, number, step, ()))

    def test_the_step_ahead_of_signs(self):
        for step in [("pay", "left", 31), ("drop", 1), ("fold", 1, 7), ("lock", "right", 21, 1, 1)]:
            self.assert_not_heard(NoStep, self.right, ("next", 4, 1, step, ()))

    def test_not_signed(self):
        letter = ("next", 4, 1, ("pay", "left", 3), ())
        self.assert_not_heard(NotSigned, self.right, letter)
        # Neither the own hand's sign nor that on another state will do.
        self.signs.sign("bert", (4, 1, 27, 23, ()))
        self.signs.sign("anna", (4, 1, 28, 22, ()))
        self.signs.sign("carl", (4, 1, 27, 23, ()))
        self.assert_not_heard(NotSigned, self.right, letter)
        self.signs.sign("anna", (4, 1, 27, 23, ()))
        self.assertEqual(self.right.take(letter), ("done", 4, 1))

    def test_doubled_letters(self):
        letter = self.left.propose(PASS)
        done = self.right.take(letter)
        self.assert_not_heard(NotYours, self.right, letter)
        self.left.done(done)
        self.assert_refused(NoLetter, self.left.done, done)
        self.go(PASS)
        self.assert_not_heard(NoLetter, self.right, letter)


class DoneTest(EndTest):
    def test_nothing_pending(self):
        for end in (self.left, self.right):
            for number in (0, 1, 2):
                self.assert_refused(NoLetter, end.done, ("done", 4, number))

    def test_no_letter_at_every_place(self):
        self.right.take(self.left.propose(PASS))
        good = ("done", 4, 1)
        bad = ANY + [good[:2], good + (1,), list(good), (), ("turn", 4), ("next", 4, 1, PASS, ()), ("next", 4, 1)]
        bad += [with_part(good, 0, word) for word in ("Done", "done ", "", "next", b"done", None, 1, ["done"])]
        bad += [with_part(good, 1, lane) for lane in NO_WHOLE + [0, 3, 5, GREATEST]]
        bad += [with_part(good, 2, number) for number in NO_WHOLE + [0, 2, 3, GREATEST]]
        for letter in bad:
            self.assert_refused(NoLetter, self.left.done, letter)
            self.assert_refused(NoLetter, self.right.done, letter)
        self.left.done(good)

    def test_no_letter_ahead_of_not_signed(self):
        self.left.propose(PASS)
        self.assert_refused(NotSigned, self.left.done, ("done", 4, 1))
        for letter in (("done", 4, 2), ("done", 4, 0), ("done", 5, 1), ("done", 4, True), None):
            self.assert_refused(NoLetter, self.left.done, letter)

    def test_signed_without_an_end(self):
        self.left.propose(PASS)
        self.signs.sign("carl", (4, 1, 30, 20, ()))
        self.assert_refused(NotSigned, self.left.done, ("done", 4, 1))
        self.signs.sign("bert", (4, 1, 30, 20, ()))
        self.left.done(("done", 4, 1))
        self.assertEqual(self.told(self.left), ((4, 1, 30, 20, ()), None, False, [(4, 1, 30, 20, ())]))


class LaneTest(EndTest):
    def any_step(self, chance, state):
        locks = state[4]
        steps = [PASS, ("pay", chance.choice(["left", "right"]), chance.randint(1, 9))]
        steps.append(("lock", chance.choice(["left", "right"]), chance.randint(1, 6), seal_of(chance.randint(0, 4)), 3))
        if locks:
            lock = chance.choice(locks)
            secrets = [secret for secret in range(5) if seal_of(secret) == lock[3]]
            steps += [("drop", lock[0]), ("fold", lock[0], secrets[0])]
        return chance.choice(steps)

    def test_two_ends_go_on_by_each_others_letters(self):
        chance = random.Random(5)
        state, done = FIRST, 0
        while done < 300:
            giver, other = (self.left, self.right) if done % 2 == 0 else (self.right, self.left)
            step = self.any_step(chance, state)
            try:
                due = next_state(state, step)
            except NoStep:
                self.assert_refused(NoStep, giver.propose, step)
                continue
            letter = giver.propose(step, more=HOPS[:chance.randint(0, 3)])
            self.assertEqual((letter[:4], giver.pending()), (("next", 4, done + 1, step), due))
            self.assertEqual(other.look(letter), due)
            if chance.random() < 0.5:
                self.assertEqual(other.take(letter), ("done", 4, done + 1))
            else:
                self.assertEqual(other.take(letter), ("done", 4, done + 1))
                # The letter may be heard twice: the second time it is refused.
                self.assert_not_heard(NotYours, other, letter)
            giver.done(("done", 4, done + 1))
            state, done = due, done + 1
            self.assertEqual((self.left.newest(), self.right.newest()), (state, state))
            self.assertEqual(worth(state), 50)
        self.assertEqual(self.signs.papers("anna"), self.signs.papers("bert"))
        self.assertEqual([paper[1] for paper in self.signs.papers("anna")], list(range(1, 301)))

    def test_two_lanes_of_the_same_hands_by_turns(self):
        left, right = [End(self.signs, side, HANDS, (5, 0, 30, 20, ())) for side in ("left", "right")]
        letter = self.left.propose(("pay", "left", 1))
        other = left.propose(("pay", "left", 2))
        self.assert_not_heard(NoLetter, self.right, other)
        self.assertEqual(right.take(other), ("done", 5, 1))
        self.assert_refused(NoLetter, self.left.done, ("done", 5, 1))
        self.right.take(letter)
        self.assertEqual((self.right.newest(), right.newest()), ((4, 1, 29, 21, ()), (5, 1, 28, 22, ())))


class InterfaceTest(unittest.TestCase):
    def test_names_and_arguments(self):
        self.assertEqual(End.__module__, "coinlanes.ends")
        self.assertEqual(str(inspect.signature(End)), "(signs, side, hands, state)")
        due = {
            "propose": "(self, step, *, more=())", "take": "(self, letter)", "look": "(self, letter)",
            "done": "(self, letter)", "newest": "(self)", "pending": "(self)", "proposes": "(self)",
            "may_count": "(self)",
        }
        for word, arguments in due.items():
            self.assertIn(word, vars(End))
            self.assertEqual(str(inspect.signature(vars(End)[word])), arguments)


if __name__ == "__main__":
    unittest.main()
