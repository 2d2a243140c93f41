"""Point 3 and the error classes of the interface."""

import unittest

from coinlanes import errors
from coinlanes.errors import CoinError, Stuck

WORDS = (
    "NoName", "NoSecret", "NoNumber", "NoCoins", "NoState", "NoStep", "NoPaper", "NoHand",
    "NoLane", "NotSigned", "Settled", "Old", "NotYours", "Waiting", "NoLetter", "NoNet",
    "NoFees", "NoWay", "NoHops", "Twice", "Begun", "NoBill", "NoDeed", "NoText", "NoRow",
)
TEXTS = ("", "a", "no such thing", "3 NoStep", "braces {} and {0}", "line\nend", "x" * 2000)


def listed_classes():
    return [getattr(errors, word) for word in WORDS]


class ListedClassesTest(unittest.TestCase):
    def test_each_is_a_class_of_its_own_name_and_file(self):
        for word in (*WORDS, "CoinError", "Stuck"):
            kind = getattr(errors, word)
            self.assertIsInstance(kind, type)
            self.assertEqual((kind.__name__, kind.__module__), (word, "coinlanes.errors"))

    def test_made_with_one_text_that_str_tells(self):
        for kind in listed_classes():
            for text in TEXTS:
                self.assertEqual(str(kind(text)), text)

    def test_each_can_be_caught_as_coin_error_and_as_value_error(self):
        for kind in listed_classes():
            for above in (kind, CoinError, ValueError):
                with self.assertRaises(above):
                    raise kind("refused")

    def test_none_is_under_another_one(self):
        kinds = [*listed_classes(), Stuck]
        for kind in kinds:
            others = [other for other in kinds if other is not kind]
            self.assertEqual(len(others), len(WORDS))
            for other in others:
                self.assertFalse(issubclass(kind, other), (kind, other))


class CoinErrorTest(unittest.TestCase):
    def test_tells_its_text(self):
        for text in TEXTS:
            self.assertEqual(str(CoinError(text)), text)

    def test_is_a_value_error_and_none_of_the_others(self):
        error = CoinError("refused")
        self.assertIsInstance(error, ValueError)
        for kind in (*listed_classes(), Stuck):
            self.assertNotIsInstance(error, kind)


class StuckTest(unittest.TestCase):
    def test_fields_and_text(self):
        error = Stuck(3, "NoStep")
        self.assertEqual(error.place, 3)
        self.assertEqual(error.word, "NoStep")
        self.assertEqual(str(error), "3 NoStep")

    def test_every_word_at_the_first_and_at_a_far_place(self):
        for word in WORDS:
            for place in (0, 1, 499, 999999999999999):
                error = Stuck(place, word)
                self.assertEqual((error.place, error.word), (place, word))
                self.assertEqual(str(error), str(place) + " " + word)

    def test_each_has_fields_of_its_own(self):
        first, second = Stuck(0, "NoDeed"), Stuck(7, "Old")
        self.assertEqual((first.place, first.word), (0, "NoDeed"))
        self.assertEqual((second.place, second.word), (7, "Old"))

    def test_is_a_coin_error(self):
        for above in (Stuck, CoinError, ValueError):
            with self.assertRaises(above):
                raise Stuck(3, "NoStep")


if __name__ == "__main__":
    unittest.main()
