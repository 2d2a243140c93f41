"""Points 6 and 7: locks, states, steps, and the next state."""

import inspect
import random
import unittest

from coinlanes import states
from coinlanes.errors import NoState, NoStep
from coinlanes.seals import seal_of
from coinlanes.states import first_state, is_lock, is_state, is_step, next_state, worth
from things import ANY, BELOW_0, FORTY, GREATEST, NO_POSITIVE, NO_SIDES, NO_WHOLE, exchanged, nested, with_part

LOCK = (3, "left", 5, 40, 9)
THIRTY = tuple((number, "left" if number % 2 else "right", number, 7, 8) for number in range(1, 31))
THIRTY_ONE = THIRTY + ((31, "left", 1, 7, 8),)
STATE = (4, 9, 20, 30, ((2, "left", 5, 40, 9), (7, "right", 6, 41, 8)))
STEPS = [("pay", "left", 1), ("lock", "right", 2, 40, 9), ("fold", 2, 40), ("drop", 7), ("pass",)]
WHOLE = [0, 1, 2, 7, 10, 99, GREATEST, FORTY]
POSITIVE = WHOLE[1:]


class ToldTest(unittest.TestCase):
    """What is told of anything: True or False, nothing else."""

    def assert_told(self, asked, thing, told):
        self.assertIs(asked(thing), told)
        self.assertIs(asked(thing), told)

    def assert_part(self, asked, whole, place, good, bad):
        for part in good:
            self.assert_told(asked, with_part(whole, place, part), True)
        for part in bad:
            self.assert_told(asked, with_part(whole, place, part), False)

    def assert_form(self, asked, whole):
        """The tuple is good; one part less or more, or a list in its place, is not."""
        self.assert_told(asked, whole, True)
        self.assert_told(asked, list(whole), False)
        self.assert_told(asked, [whole], False)
        self.assert_told(asked, (whole,), False)
        self.assert_told(asked, {whole: 1}, False)
        for place in range(len(whole)):
            self.assert_told(asked, whole[:place] + whole[place + 1:], False)
            self.assert_told(asked, whole[:place], False)
        for more in (0, 1, "left", (), None):
            self.assert_told(asked, whole + (more,), False)
            self.assert_told(asked, (more,) + whole, False)


class LockTest(ToldTest):
    def test_form(self):
        self.assert_form(is_lock, LOCK)
        self.assert_form(is_lock, (1, "right", 1, 0, 0))
        self.assert_form(is_lock, (FORTY, "left", FORTY + 1, FORTY + 2, FORTY + 3))

    def test_each_part(self):
        self.assert_part(is_lock, LOCK, 0, POSITIVE, NO_POSITIVE)
        self.assert_part(is_lock, LOCK, 1, ["left", "right"], NO_SIDES[:5] + NO_SIDES[-20:])
        self.assert_part(is_lock, LOCK, 2, POSITIVE, NO_POSITIVE)
        self.assert_part(is_lock, LOCK, 3, WHOLE, NO_WHOLE)
        self.assert_part(is_lock, LOCK, 4, WHOLE, NO_WHOLE)

    def test_sides_that_are_none(self):
        for side in NO_SIDES:
            if side != "left":
                self.assert_told(is_lock, with_part(LOCK, 1, side), False)

    def test_parts_exchanged(self):
        for place in (0, 2, 3, 4):
            self.assert_told(is_lock, exchanged(LOCK, 1, place), False)
        self.assert_told(is_lock, exchanged((1, "left", 1, 0, 0), 0, 3), False)
        self.assert_told(is_lock, exchanged((1, "left", 1, 0, 0), 2, 4), False)

    def test_anything(self):
        for thing in ANY:
            self.assert_told(is_lock, thing, False)
        self.assert_told(is_lock, "12345", False)
        self.assert_told(is_lock, STATE, False)
        for step in STEPS:
            self.assert_told(is_lock, step, False)


class StateTest(ToldTest):
    def test_form(self):
        self.assert_form(is_state, STATE)
        self.assert_form(is_state, (0, 0, 0, 0, ()))
        self.assert_form(is_state, (0, 30, 0, 0, THIRTY))
        self.assert_form(is_state, (1, 3, 0, 0, (LOCK,)))

    def test_each_part(self):
        for place in (0, 2, 3):
            self.assert_part(is_state, STATE, place, WHOLE, NO_WHOLE)
        self.assert_part(is_state, STATE, 1, [7, 8, GREATEST, FORTY], NO_WHOLE)
        self.assert_part(is_state, (0, 0, 0, 0, ()), 1, WHOLE, NO_WHOLE)
        self.assert_part(is_state, STATE, 4, [(), (LOCK,)], [thing for thing in ANY + BELOW_0 if thing != ()])

    def test_parts_exchanged(self):
        for place in range(4):
            self.assert_told(is_state, exchanged(STATE, 4, place), False)

    def test_thirty_locks_and_one_more(self):
        self.assert_told(is_state, (0, 31, 0, 0, THIRTY), True)
        self.assert_told(is_state, (0, 31, 0, 0, THIRTY_ONE), False)
        self.assert_told(is_state, (0, 31, 0, 0, THIRTY_ONE[1:]), True)
        self.assert_told(is_state, (0, 100, 0, 0, THIRTY_ONE * 3), False)

    def test_ids_rise(self):
        low, high = (4, "left", 1, 1, 1), (5, "right", 1, 1, 1)
        self.assert_told(is_state, (0, 9, 0, 0, (low, high)), True)
        self.assert_told(is_state, (0, 9, 0, 0, (high, low)), False)
        self.assert_told(is_state, (0, 9, 0, 0, (low, low)), False)
        self.assert_told(is_state, (0, 9, 0, 0, (low, with_part(high, 0, 4))), False)
        self.assert_told(is_state, (0, 9, 0, 0, (low, with_part(high, 0, 9))), True)
        one = (1, "left", 1, 1, 1)
        self.assert_told(is_state, (0, 9, 0, 0, (one, low, high)), True)
        self.assert_told(is_state, (0, 9, 0, 0, (low, high, one)), False)
        self.assert_told(is_state, (0, 9, 0, 0, (low, one, high)), False)

    def test_no_id_above_the_number(self):
        for number in (1, 2, 9, GREATEST, FORTY):
            lock = (number, "left", 1, 1, 1)
            self.assert_told(is_state, (0, number, 0, 0, (lock,)), True)
            self.assert_told(is_state, (0, number + 1, 0, 0, (lock,)), True)
            self.assert_told(is_state, (0, number - 1, 0, 0, (lock,)), False)
        self.assert_told(is_state, (0, 6, 0, 0, STATE[4]), False)
        self.assert_told(is_state, (0, 7, 0, 0, STATE[4]), True)

    def test_numbers_of_forty_figures(self):
        lock = (FORTY, "right", FORTY, FORTY, FORTY)
        self.assert_told(is_state, (FORTY, FORTY, FORTY, FORTY, (lock,)), True)

    def test_locks_that_are_none(self):
        for place in (0, 1):
            for thing in ANY + [list(LOCK), LOCK + (0,), LOCK[:4], nested(1, LOCK), (LOCK,)]:
                locks = with_part(STATE[4], place, thing)
                self.assert_told(is_state, with_part(STATE, 4, locks), False)
        for place in range(5):
            for part in NO_WHOLE:
                if not (place == 1 and part == "left"):
                    lock = with_part(LOCK, place, part)
                    self.assert_told(is_state, (0, 9, 0, 0, (lock,)), False)
        self.assert_told(is_state, (0, 9, 0, 0, ((3, "left", 0, 1, 1),)), False)
        self.assert_told(is_state, (0, 9, 0, 0, ((0, "left", 1, 1, 1),)), False)
        self.assert_told(is_state, (0, 9, 0, 0, ((3, "Left", 1, 1, 1),)), False)

    def test_lists_where_tuples_are_due(self):
        self.assert_told(is_state, (1, 3, 0, 0, [LOCK]), False)
        self.assert_told(is_state, (1, 3, 0, 0, (list(LOCK),)), False)
        self.assert_told(is_state, (1, 3, 0, 0, []), False)
        self.assert_told(is_state, [1, 3, 0, 0, (LOCK,)], False)

    def test_anything(self):
        for thing in ANY + STEPS + [LOCK, "12345", [STATE]]:
            self.assert_told(is_state, thing, False)


class StepTest(ToldTest):
    def test_form(self):
        for step in STEPS:
            self.assert_told(is_step, step, True)
            self.assert_told(is_step, list(step), False)
            self.assert_told(is_step, (step,), False)
            self.assert_told(is_step, step[1:], False)
            for size in range(len(step)):
                self.assert_told(is_step, step[:size], False)
            for more in (0, 1, "left", (), None):
                self.assert_told(is_step, step + (more,), False)
                self.assert_told(is_step, (more,) + step, False)

    def test_pay(self):
        self.assert_part(is_step, ("pay", "left", 1), 1, ["left", "right"], [s for s in NO_SIDES if s != "left"])
        self.assert_part(is_step, ("pay", "left", 1), 2, POSITIVE, NO_POSITIVE)
        self.assert_told(is_step, ("pay", 1, "left"), False)

    def test_lock(self):
        step = ("lock", "left", 5, 40, 9)
        self.assert_part(is_step, step, 1, ["left", "right"], [s for s in NO_SIDES if s != "left"])
        self.assert_part(is_step, step, 2, POSITIVE, NO_POSITIVE)
        self.assert_part(is_step, step, 3, WHOLE, NO_WHOLE)
        self.assert_part(is_step, step, 4, WHOLE, NO_WHOLE)
        for place in (2, 3, 4):
            self.assert_told(is_step, exchanged(step, 1, place), False)
        self.assert_told(is_step, ("lock", "left", 0, 5, 9), False)
        self.assert_told(is_step, LOCK, False)
        self.assert_told(is_step, ("lock", LOCK), False)
        self.assert_told(is_step, ("lock", *LOCK), False)

    def test_fold_and_drop(self):
        self.assert_part(is_step, ("fold", 2, 40), 1, POSITIVE, NO_POSITIVE)
        self.assert_part(is_step, ("fold", 2, 40), 2, WHOLE, NO_WHOLE)
        self.assert_part(is_step, ("drop", 7), 1, POSITIVE, NO_POSITIVE)
        self.assert_told(is_step, ("fold", 1, 0), True)
        self.assert_told(is_step, ("fold", 0, 1), False)

    def test_words(self):
        for word in ANY + ["Pay", "pay ", " pay", "pass\n", "PASS", "left", "open", "turn", "next", "done", "hold"]:
            for step in STEPS:
                self.assert_told(is_step, (word,) + step[1:], False)
            self.assert_told(is_step, (word,), False)

    def test_words_exchanged(self):
        for one in STEPS:
            for other in STEPS:
                if one[0] != other[0]:
                    self.assert_told(is_step, (one[0],) + other[1:], False)

    def test_anything(self):
        for thing in ANY + [LOCK, STATE, "pass", "pay", ["pass"], {"pass": 1}, {"pass"}, b"pass", (b"pass",)]:
            self.assert_told(is_step, thing, False)


class WorthTest(unittest.TestCase):
    def test_worth(self):
        self.assertEqual(worth(STATE), 61)
        self.assertEqual(worth((0, 0, 0, 0, ())), 0)
        self.assertEqual(worth((7, 5, 3, 0, ())), 3)
        self.assertEqual(worth((7, 5, 0, 4, ())), 4)
        self.assertEqual(worth((0, 9, 0, 0, (LOCK,))), 5)
        self.assertEqual(worth((0, 9, 0, 0, (with_part(LOCK, 1, "right"),))), 5)
        self.assertEqual(worth((1, 30, 1000, 100, THIRTY)), 1100 + 465)
        self.assertEqual(worth((FORTY, FORTY, FORTY, FORTY, ())), 2 * FORTY)
        self.assertIs(type(worth(STATE)), int)

    def test_refused(self):
        bad = [with_part(STATE, place, True) for place in range(5)] + [list(STATE), STATE[:4], STATE + ((),), LOCK]
        bad += [(0, 9, 0, 0, (with_part(LOCK, place, True),)) for place in range(5)]
        for thing in ANY + bad + STEPS:
            with self.assertRaises(NoState) as caught:
                worth(thing)
            self.assertIs(type(caught.exception), NoState)

    def test_first_state(self):
        self.assertEqual(first_state(4, 20, 30), (4, 0, 20, 30, ()))
        self.assertEqual(first_state(0, 0, 0), (0, 0, 0, 0, ()))
        for lane, left, right in ((0, 1, 0), (1, 0, 1), (GREATEST, FORTY, 3)):
            state = first_state(lane, left, right)
            self.assertEqual(state, (lane, 0, left, right, ()))
            self.assertIs(type(state), tuple)
            self.assertIs(is_state(state), True)
            self.assertEqual(worth(state), left + right)


class NextStateTest(unittest.TestCase):
    def assert_next(self, state, step, told):
        kept = eval(repr((state, step)))
        for _ in range(2):
            found = next_state(state, step)
            self.assertEqual(found, told)
            self.assertIs(is_state(found), True)
            self.assertEqual(worth(found), worth(state))
            self.assertEqual((state, step), kept)

    def assert_refused(self, state, step, kind):
        with self.assertRaises(kind) as caught:
            next_state(state, step)
        self.assertIs(type(caught.exception), kind)

    def test_pay(self):
        locks = STATE[4]
        self.assert_next(STATE, ("pay", "left", 3), (4, 10, 17, 33, locks))
        self.assert_next(STATE, ("pay", "right", 3), (4, 10, 23, 27, locks))
        self.assert_next((0, 0, 1, 0, ()), ("pay", "left", 1), (0, 1, 0, 1, ()))

    def test_pay_of_all_and_one_more(self):
        locks = STATE[4]
        self.assert_next(STATE, ("pay", "left", 20), (4, 10, 0, 50, locks))
        self.assert_next(STATE, ("pay", "right", 30), (4, 10, 50, 0, locks))
        self.assert_refused(STATE, ("pay", "left", 21), NoStep)
        self.assert_refused(STATE, ("pay", "right", 31), NoStep)
        self.assert_refused((0, 0, 0, 9, ()), ("pay", "left", 1), NoStep)
        self.assert_refused((0, 0, 9, 0, ()), ("pay", "right", 1), NoStep)
        self.assert_refused(STATE, ("pay", "left", FORTY), NoStep)

    def test_lock(self):
        locks = STATE[4]
        self.assert_next(
            STATE, ("lock", "left", 3, 50, 60), (4, 10, 17, 30, locks + ((10, "left", 3, 50, 60),)))
        self.assert_next(
            STATE, ("lock", "right", 4, 0, 0), (4, 10, 20, 26, locks + ((10, "right", 4, 0, 0),)))
        self.assert_next((2, 0, 5, 0, ()), ("lock", "left", 1, 7, 8), (2, 1, 4, 0, ((1, "left", 1, 7, 8),)))

    def test_lock_of_all_and_one_more(self):
        for side, all_coins in (("left", 20), ("right", 30)):
            found = next_state(STATE, ("lock", side, all_coins, 1, 2))
            self.assertEqual(found[2 if side == "left" else 3], 0)
            self.assertEqual(found[4][-1], (10, side, all_coins, 1, 2))
            self.assertEqual(worth(found), 61)
            self.assert_refused(STATE, ("lock", side, all_coins + 1, 1, 2), NoStep)

    def test_thirtieth_and_thirty_first_lock(self):
        state = (0, 40, 50, 50, THIRTY[:29])
        told = (0, 41, 49, 50, THIRTY[:29] + ((41, "left", 1, 2, 3),))
        self.assert_next(state, ("lock", "left", 1, 2, 3), told)
        for side in ("left", "right"):
            self.assert_refused(told, ("lock", side, 1, 2, 3), NoStep)
            self.assert_refused((0, 30, 50, 50, THIRTY), ("lock", side, 1, 2, 3), NoStep)
        self.assert_next(told, ("pass",), with_part(told, 1, 42))
        self.assert_next(told, ("pay", "left", 1), (0, 42, 48, 51, told[4]))
        # Where one goes there is a place for another.
        self.assertEqual(len(next_state(next_state(told, ("drop", 1)), ("lock", "left", 1, 2, 3))[4]), 30)

    def fold_state(self):
        seal, other = seal_of(77), seal_of(78)
        return (4, 9, 20, 30, ((2, "left", 5, seal, 9), (5, "right", 6, seal, 8), (9, "left", 7, other, 1)))

    def test_fold(self):
        state = self.fold_state()
        one, two, three = state[4]
        self.assert_next(state, ("fold", 2, 77), (4, 10, 20, 35, (two, three)))
        self.assert_next(state, ("fold", 5, 77), (4, 10, 26, 30, (one, three)))
        self.assert_next(state, ("fold", 9, 78), (4, 10, 20, 37, (one, two)))

    def test_fold_with_another_secret(self):
        state = self.fold_state()
        for number, secret in ((2, 78), (5, 78), (9, 77), (2, 0), (2, seal_of(77)), (9, 79), (9, FORTY)):
            self.assert_refused(state, ("fold", number, secret), NoStep)

    def test_drop(self):
        state = self.fold_state()
        one, two, three = state[4]
        self.assert_next(state, ("drop", 2), (4, 10, 25, 30, (two, three)))
        self.assert_next(state, ("drop", 5), (4, 10, 20, 36, (one, three)))
        self.assert_next(state, ("drop", 9), (4, 10, 27, 30, (one, two)))

    def test_locks_that_were_there_and_that_never_were(self):
        state = self.fold_state()
        for gone in (next_state(state, ("fold", 2, 77)), next_state(state, ("drop", 2))):
            self.assert_refused(gone, ("fold", 2, 77), NoStep)
            self.assert_refused(gone, ("drop", 2), NoStep)
        for number in (1, 3, 4, 6, 8, 10, GREATEST):
            self.assert_refused(state, ("fold", number, 77), NoStep)
            self.assert_refused(state, ("drop", number), NoStep)
        self.assert_refused((0, 0, 1, 1, ()), ("drop", 1), NoStep)
        self.assert_refused((0, 0, 1, 1, ()), ("fold", 1, 0), NoStep)

    def test_pass(self):
        self.assert_next(STATE, ("pass",), with_part(STATE, 1, 10))
        self.assert_next((0, 0, 0, 0, ()), ("pass",), (0, 1, 0, 0, ()))

    def test_numbers_of_forty_figures(self):
        state = (FORTY, FORTY, FORTY, FORTY, ())
        locked = (FORTY, FORTY + 1, 0, FORTY, ((FORTY + 1, "left", FORTY, seal_of(FORTY), FORTY),))
        self.assert_next(state, ("lock", "left", FORTY, seal_of(FORTY), FORTY), locked)
        self.assert_next(locked, ("fold", FORTY + 1, FORTY), (FORTY, FORTY + 2, 0, 2 * FORTY, ()))
        self.assert_next(locked, ("drop", FORTY + 1), (FORTY, FORTY + 2, FORTY, FORTY, ()))

    def test_no_state_ahead_of_no_step(self):
        bad_states = ANY + [list(STATE), STATE[:4], with_part(STATE, 1, 6), with_part(STATE, 2, True)]
        for state in bad_states:
            self.assert_refused(state, ("pass",), NoState)
            self.assert_refused(state, None, NoState)
            self.assert_refused(state, ("pay", "left", GREATEST), NoState)
        for step in ANY + [list(STEPS[0]), ["pass"], ("pay", "left", 0), ("drop",), ("hold", 1), LOCK, STATE]:
            self.assert_refused(STATE, step, NoStep)

    def test_a_walk(self):
        chance = random.Random(7)
        state, log = (3, 0, 60, 40, ()), []
        for _ in range(3000):
            step = self.any_step(chance, state)
            try:
                found = next_state(state, step)
            except NoStep:
                self.assertTrue(self.is_wrong(state, step), (state, step))
                continue
            self.assertFalse(self.is_wrong(state, step), (state, step))
            self.assertIs(is_state(found), True)
            self.assertEqual((found[0], found[1], worth(found)), (3, state[1] + 1, 100))
            log.append(step[0])
            state = found
        self.assertEqual(set(log), {"pay", "lock", "fold", "drop", "pass"})

    def any_step(self, chance, state):
        side, number = chance.choice(["left", "right"]), chance.randint(1, state[1] + 1)
        if state[4] and chance.random() < 0.5:
            number = chance.choice(state[4])[0]
        seal = seal_of(chance.randint(0, 2))
        return chance.choice([
            ("pay", side, chance.randint(1, 40)), ("lock", side, chance.randint(1, 4), seal, 5),
            ("lock", side, 1, seal_of(0), 5), ("fold", number, chance.randint(0, 2)), ("drop", number), ("pass",)])

    def is_wrong(self, state, step):
        share = {"left": state[2], "right": state[3]}
        locks = {lock[0]: lock for lock in state[4]}
        if step[0] == "pay":
            return share[step[1]] < step[2]
        if step[0] == "lock":
            return share[step[1]] < step[2] or len(locks) == 30
        if step[0] == "fold":
            return step[1] not in locks or seal_of(step[2]) != locks[step[1]][3]
        return step[0] == "drop" and step[1] not in locks


class InterfaceTest(unittest.TestCase):
    def test_names_and_arguments(self):
        due = {"is_lock": "thing", "is_state": "thing", "is_step": "thing", "worth": "state",
               "first_state": "lane left right", "next_state": "state step"}
        for word, names in due.items():
            told = getattr(states, word)
            self.assertEqual(told.__module__, "coinlanes.states")
            self.assertEqual(list(inspect.signature(told).parameters), names.split())


if __name__ == "__main__":
    unittest.main()
