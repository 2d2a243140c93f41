"""Point 39: states, steps and letters, written and read."""

import inspect
import random
import unittest

from coinlanes import texts
from coinlanes.errors import CoinError, NoLetter, NoState, NoStep, NoText
from coinlanes.texts import read_letter, read_state, read_step, show_letter, show_state, show_step
from things import ANY, FORTY, GREATEST, NO_WHOLE, with_part

SIXTEEN = GREATEST + 1
G = str(GREATEST)
STATES = {
    "0 0 0 0": (0, 0, 0, 0, ()),
    "4 9 20 30 3:left:5:40:9": (4, 9, 20, 30, ((3, "left", 5, 40, 9),)),
    "1 2 3 4 1:right:1:0:0 2:left:10:100:5": (1, 2, 3, 4, ((1, "right", 1, 0, 0), (2, "left", 10, 100, 5))),
    f"{G} {G} {G} {G} {G}:right:{G}:{G}:{G}": (GREATEST,) * 4 + (((GREATEST, "right", GREATEST, GREATEST, GREATEST),),),
}
STEPS = {
    "pay left 5": ("pay", "left", 5), "pay right 1": ("pay", "right", 1), f"pay left {G}": ("pay", "left", GREATEST),
    "lock left 5 40 9": ("lock", "left", 5, 40, 9), "lock right 1 0 0": ("lock", "right", 1, 0, 0),
    f"lock right {G} {G} {G}": ("lock", "right", GREATEST, GREATEST, GREATEST),
    "fold 1 0": ("fold", 1, 0), f"fold {G} {G}": ("fold", GREATEST, GREATEST), "drop 1": ("drop", 1),
    f"drop {G}": ("drop", GREATEST), "pass": ("pass",),
}
LETTERS = {
    "done 0 0": ("done", 0, 0), f"done {G} {G}": ("done", GREATEST, GREATEST), "turn 0": ("turn", 0),
    f"turn {G}": ("turn", GREATEST), "next 0 0 pass": ("next", 0, 0, ("pass",), ()),
    "next 3 8 pass > 0:1:0": ("next", 3, 8, ("pass",), ((0, 1, 0),)),
    "next 4 1 lock left 5 40 9 > 6:4:8 > 0:1:0": ("next", 4, 1, ("lock", "left", 5, 40, 9), ((6, 4, 8), (0, 1, 0))),
    f"next {G} {G} drop 7 > {G}:{G}:{G}": ("next", GREATEST, GREATEST, ("drop", 7), ((GREATEST,) * 3,)),
}
LETTERS.update({f"next 10 20 {text}": ("next", 10, 20, step, ()) for text, step in STEPS.items()})
KINDS = ((STATES, show_state, read_state), (STEPS, show_step, read_step), (LETTERS, show_letter, read_letter))


def broken(text):
    """Texts that differ from this one a little, and of which none is the writing of anything."""
    words = text.split(" ")
    found = [text + " ", " " + text, text + "\n", text + "\t", "\n" + text, text.upper() + "", text + " ,", text + "."]
    for at in range(len(words)):
        def put(word):
            return " ".join(words[:at] + [word] + words[at + 1:])

        found += [put(""), put(words[at] + " "), put("\t" + words[at]), put(words[at] + "x"), put("x" + words[at])]
        found += [put(words[at] + ":"), put(":" + words[at]), put(words[at] + ">"), put(words[at].title() + "")]
        found += [put("0" + words[at]), put("+" + words[at]), put("-" + words[at]), put(words[at] + ".0")]
        found += [put("(" + words[at] + ")"), put("'" + words[at] + "'")]
        for figure in "0123456789":
            if figure in words[at]:
                found += [put(words[at].replace(figure, "-" + figure)), put(words[at].replace(figure, str(SIXTEEN)))]
                found += [put(words[at].replace(figure, chr(0x660 + int(figure)))), put(words[at].replace(figure, ""))]
                found += [put(words[at].replace(figure, figure + "_" + figure))]
    # A word that loses its figures may be another writing: only what reads the same is left out here.
    return [other for other in found if other != text]


class TextTest(unittest.TestCase):
    def assert_refused(self, kind, asked, *told):
        with self.assertRaises(CoinError) as caught:
            asked(*told)
        self.assertIs(type(caught.exception), kind)

    def reads(self, read, text):
        try:
            return read(text)
        except NoText:
            return None


class WriteTest(TextTest):
    def test_each_kind_written_and_read_back(self):
        for table, show, read in KINDS:
            for text, thing in table.items():
                self.assertEqual(show(thing), text)
                self.assertEqual(read(text), thing)
                self.assertEqual(repr(read(text)), repr(thing))

    def test_forty_hops_and_thirty_locks(self):
        hops = tuple((lane, lane + 1, lane) for lane in range(40))
        letter = ("next", 1, 2, ("lock", "left", 5, 40, 9), hops)
        text = "next 1 2 lock left 5 40 9" + "".join(f" > {lane}:{lane + 1}:{lane}" for lane in range(40))
        self.assertEqual((show_letter(letter), read_letter(text)), (text, letter))
        state = (1, 30, 2, 3, tuple((number, "left", 4, 5, 6) for number in range(1, 31)))
        text = "1 30 2 3" + "".join(f" {number}:left:4:5:6" for number in range(1, 31))
        self.assertEqual((show_state(state), read_state(text)), (text, state))
        self.assert_refused(NoText, read_state, "1 31 2 3" + "".join(f" {number}:left:4:5:6" for number in range(1, 32)))

    def test_a_long_state_that_was_told(self):
        state = (GREATEST,) * 4 + (tuple((GREATEST - 30 + at, "right", GREATEST, GREATEST, GREATEST)
                                         for at in range(30)),)
        self.assertGreater(len(show_state(state)), 2000)
        self.assertEqual(read_state(show_state(state)), state)

    def test_greater_numbers_are_written_and_not_read(self):
        for number in (SIXTEEN, FORTY):
            for state in ((number, 0, 0, 0, ()), (0, number, 0, 0, ()), (0, 0, number, 0, ()), (0, 0, 0, number, ()),
                          (0, number, 1, 1, ((number, "left", 1, 1, 1),)), (0, 1, 1, 1, ((1, "left", number, 1, 1),)),
                          (0, 1, 1, 1, ((1, "left", 1, number, 1),)), (0, 1, 1, 1, ((1, "left", 1, 1, number),))):
                words = [str(part) for part in state[:4]] + [":".join(map(str, lock)) for lock in state[4]]
                self.assertEqual(show_state(state), " ".join(words))
                self.assert_refused(NoText, read_state, show_state(state))
            for step in (("pay", "left", number), ("fold", 1, number), ("fold", number, 1), ("drop", number),
                         ("lock", "left", number, 1, 1), ("lock", "left", 1, number, 1), ("lock", "left", 1, 1, number)):
                self.assertEqual(show_step(step), " ".join(map(str, step)))
                self.assert_refused(NoText, read_step, show_step(step))
                self.assert_refused(NoText, read_letter, show_letter(("next", 0, 1, step, ())))
            for letter in (("turn", number), ("done", 0, number), ("done", number, 0),
                           ("next", number, 1, ("pass",), ()), ("next", 1, number, ("pass",), ()),
                           ("next", 1, 1, ("pass",), ((number, 1, 1),)), ("next", 1, 1, ("pass",), ((1, number, 1),)),
                           ("next", 1, 1, ("pass",), ((1, 1, number),))):
                self.assertIn(str(number), show_letter(letter))
                self.assert_refused(NoText, read_letter, show_letter(letter))

    def test_any_states_steps_and_letters(self):
        chance = random.Random(9)
        seen = {}
        for _ in range(500):
            def number(low=0):
                return max(low, chance.choice([0, 1, chance.randint(2, 99), chance.randint(100, GREATEST)]))

            side = chance.choice(["left", "right"])
            ids = sorted({number(1) for _ in range(chance.randint(0, 5))})
            locks = tuple((name, chance.choice(["left", "right"]), number(1), number(), number()) for name in ids)
            state = (number(), max(ids + [number()]), number(), number(), locks)
            step = chance.choice([("pay", side, number(1)), ("lock", side, number(1), number(), number()),
                                  ("fold", number(1), number()), ("drop", number(1)), ("pass",)])
            more = tuple((number(), number(1), number()) for _ in range(chance.randint(0, 4)))
            letter = chance.choice([("next", number(), number(), step, more), ("done", number(), number()),
                                    ("turn", number())])
            for thing, show, read in ((state, show_state, read_state), (step, show_step, read_step),
                                      (letter, show_letter, read_letter)):
                text = show(thing)
                self.assertEqual(read(text), thing)
                self.assertEqual(seen.setdefault((show, text), thing), thing)


class RefusedTest(TextTest):
    def test_what_writes_nothing(self):
        for thing in [thing for thing in ANY if thing != ("pass",)] + [(0, 0, 0, 0), (0, 0, 0, 0, []), ("pay", "left")]:
            self.assert_refused(NoState, show_state, thing)
            self.assert_refused(NoStep, show_step, thing)
            self.assert_refused(NoLetter, show_letter, thing)

    def test_one_kind_is_not_another(self):
        for table, kind in ((STATES, "state"), (STEPS, "step"), (LETTERS, "letter")):
            for text, thing in table.items():
                for name, show, read, error in (("state", show_state, read_state, NoState),
                                                ("step", show_step, read_step, NoStep),
                                                ("letter", show_letter, read_letter, NoLetter)):
                    if name != kind:
                        self.assert_refused(error, show, thing)
                        self.assert_refused(NoText, read, text)

    def test_things_with_a_part_that_is_none(self):
        state, letter = (4, 9, 20, 30, ((3, "left", 5, 40, 9),)), ("next", 4, 1, ("drop", 3), ((6, 4, 8),))
        for part in NO_WHOLE:
            for place in range(4):
                self.assert_refused(NoState, show_state, with_part(state, place, part))
            for place in (1, 2):
                self.assert_refused(NoLetter, show_letter, with_part(letter, place, part))
            self.assert_refused(NoStep, show_step, ("drop", part))
            self.assert_refused(NoStep, show_step, ("fold", 1, part))
            self.assert_refused(NoLetter, show_letter, with_part(letter, 3, ("drop", part)))
            self.assert_refused(NoLetter, show_letter, with_part(letter, 4, ((6, 4, part),)))
            self.assert_refused(NoLetter, show_letter, ("turn", part))
            self.assert_refused(NoLetter, show_letter, ("done", 1, part))
        for thing in (list(state), with_part(state, 4, list(state[4]))):
            self.assert_refused(NoState, show_state, thing)
        for thing in (list(letter), with_part(letter, 3, ["drop", 3]), with_part(letter, 4, [(6, 4, 8)])):
            self.assert_refused(NoLetter, show_letter, thing)

    def test_texts_of_nothing(self):
        bad = ANY + ["", " ", "  ", "0", "0 0", "0 0 0", "pay", "pay left", "next", "next 0", "next 0 1", "done",
                     "done 0", "turn", "open", "left", ":", ">", "> 0:1:0", "x" * 2000, "0 " * 900, b"pass",
                     b"0 0 0 0", ["pass"], ("turn 0",)]
        for text in bad:
            for _, _, read in KINDS:
                self.assert_refused(NoText, read, text)

    def test_texts_broken_at_every_place(self):
        for table, show, read in KINDS:
            for text in table:
                for other in broken(text):
                    thing = self.reads(read, other)
                    # Of what is read all the same there is one writing alone.
                    if thing is not None:
                        self.assertEqual(show(thing), other)

    def test_which_of_them_are_refused(self):
        bad = {
            read_state: [
                "00 0 0 0", "0 01 0 0", "0 0 0 -1", "0 0 0 +1", "0 0 0  0", " 0 0 0 0", "0 0 0 0 ", "0\t0 0 0",
                "0 0 0 0\n", "0 0 0 x", "0 0 0 1.0", "0 0 0 1_0", "0 9 0 0 0:left:5:40:9", "0 2 0 0 3:left:5:40:9",
                "0 9 0 0 3:left:0:40:9", "0 9 0 0 3:Left:5:40:9", "0 9 0 0 3:left:5:40", "0 9 0 0 3:left:5:40:9:1",
                "0 9 0 0 3:left:5:40:09", "0 9 0 0 3:left:5:40:9 3:left:5:40:9", "0 9 0 0 4:left:5:40:9 3:left:5:40:9",
                "0 9 0 0 3:5:left:40:9", "0 9 0 0 3:left:5:40: 9", "0 9 0 0 :", "0 9 0 0 3", "0 9 left 0",
                "0 9 0 0 3,left,5,40,9", f"0 0 0 {SIXTEEN}", f"0 9 0 0 3:left:{SIXTEEN}:40:9", "0 0 0 \u0661",
                "0 0 0 \uff11", "0 0 0 \u00b2", "state 0 0 0 0",
            ],
            read_step: [
                "pay left 0", "pay left 05", "pay left -5", "pay both 5", "pay 5 left", "pay left 5 5", "pay  left 5",
                "pay left 5 ", " pass", "pass ", "pass 1", "Pass", "passs", "lock left 5 40", "lock left 0 40 9",
                "lock left 5 40 9 1", "fold 0 7", "fold 1", "fold 1 -7", "fold 1 7 7", "drop 0", "drop", "drop 1 1",
                "drop left", "fold 1 left", "1", "left", f"pay left {SIXTEEN}", "pay left 5\n", "PAY left 5",
            ],
            read_letter: [
                "turn", "turn 0 0", "turn 00", "turn -1", "turn left", "turn  0", " turn 0", "turn 0 ", "Turn 0",
                "done 0", "done 0 1 1", "done 0 01", "done left 1", "next 0 1", "next 0 pass", "next 0 1 pass >",
                "next 0 1 pass > ", "next 0 1 pass 6:4:8", "next 0 1 pass > 6:4", "next 0 1 pass > 6:4:8:1",
                "next 0 1 pass > 6:0:8", "next 0 1 pass > 6:4:08", "next 0 1 pass >6:4:8", "next 0 1 pass > 6:4:8 >",
                "next 0 1 pass > > 6:4:8", "next 0 1 pass > 6:4:8 6:4:8", "next 0 1 pass > 6:4:8 > left:4:8",
                "next 0 1 > 6:4:8", "next 0 > 6:4:8", "next > 6:4:8", "next 0 01 pass", "next 0 1 pay left 0",
                "next 0 1 pass pass", "next 0 1 turn 0", "next 0 1 open", f"turn {SIXTEEN}", "pass", "done pass",
                "next 0 1 pass" + " > 1:1:1" * 41,
            ],
        }
        for read, texts_of_none in bad.items():
            for text in texts_of_none:
                self.assert_refused(NoText, read, text)

    def test_texts_of_a_few_words(self):
        """Of each text that is read there is one writing alone, whichever words it has."""
        chance = random.Random(10)
        words = ["0", "9", "12", "07", "", "next", "done", "turn", "pass", "drop", "pay", "left", ">", "6:4:8",
                 "3:left:5:40:9", "4:right:1:0:0", "2:left:0:1:1", "0:0:0"]
        seen = {read: 0 for _, _, read in KINDS}
        for _ in range(20000):
            text = " ".join(chance.choice(words) for _ in range(chance.randint(1, 6)))
            if chance.random() < 0.5:
                text = chance.choice(["9 9 0 0 ", "next 0 1 pass ", "next 1 2 ", "pay left ", "fold 1 ", ""]) + text
            for _, show, read in KINDS:
                thing = self.reads(read, text)
                if thing is not None:
                    seen[read] += 1
                    self.assertEqual(show(thing), text)
        self.assertGreater(min(seen.values()), 25)


class InterfaceTest(unittest.TestCase):
    def test_names_and_arguments(self):
        due = {"show_state": "(state)", "show_step": "(step)", "show_letter": "(letter)"}
        due.update({word.replace("show", "read"): "(text)" for word in list(due)})
        for word, arguments in due.items():
            asked = getattr(texts, word)
            self.assertEqual((asked.__module__, str(inspect.signature(asked))), ("coinlanes.texts", arguments))


if __name__ == "__main__":
    unittest.main()
