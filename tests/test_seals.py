"""Point 5: names, secrets and seals."""

import unittest

from coinlanes import seals
from coinlanes.errors import NoSecret
from coinlanes.seals import is_name, seal_of

LETTERS = "abcdefghijklmnopqrstuvwxyz"
# Signs from the blank to ~ that are no small letters, ends of lines and the like, and some
# letters and figures that are none of a to z or 0 to 9.
OTHER_SIGNS = [chr(code) for code in range(32, 127) if chr(code) not in LETTERS] + [
    "\n", "\r", "\t", "\v", "\f", "\0", "\x7f", "\x85", "\u2028",
    "\u00e4", "\u00df", "\u00aa", "\u00b2", "\u0131", "\u03b1", "\u0430", "\uff41", "\u0661",
]
GREATEST = 999999999999999


def nested(depth):
    thing = ()
    for _ in range(depth):
        thing = [thing]
    return thing


NO_TEXTS = [
    None, True, False, 0, 1, -1, GREATEST, 10 ** 5000, -10 ** 5000, 0.5,
    (), ("anna",), ("anna", "bert"), ("a", "b"), [], ["anna"], ["a", "b"], {}, {"anna": 1},
    {"a": "b"}, {"a"}, b"anna", nested(20), list("anna") * 50, str, object(),
]
TEXTS = ["", " ", "0", "1", "7", "123", "-1", "anna", "a", "True", "None", "x" * 2000]


class NameTest(unittest.TestCase):
    def assert_told(self, thing, told):
        self.assertIs(is_name(thing), told)

    def test_one_letter(self):
        for letter in LETTERS:
            self.assert_told(letter, True)

    def test_one_to_eight_letters(self):
        for size in range(1, 9):
            for start in range(26):
                name = (LETTERS + LETTERS)[start:start + size]
                self.assertEqual(len(name), size)
                self.assert_told(name, True)
            self.assert_told("a" * size, True)
            self.assert_told("z" * size, True)

    def test_no_letter_and_too_many(self):
        for size in (0, 9, 10, 16, 26, 2000, 100000):
            self.assert_told("a" * size, False)
            self.assert_told("z" * size, False)
        self.assert_told(LETTERS[:9], False)

    def test_one_other_sign_at_each_place(self):
        for sign in OTHER_SIGNS:
            self.assert_told(sign, False)
            for size in range(2, 9):
                for place in range(size):
                    name = "a" * place + sign + "z" * (size - 1 - place)
                    self.assertEqual(len(name), size)
                    self.assert_told(name, False)
            self.assert_told("abcdefgh" + sign, False)
            self.assert_told(sign + "abcdefgh", False)

    def test_what_is_no_text(self):
        for thing in NO_TEXTS:
            self.assert_told(thing, False)

    def test_asked_again(self):
        for thing, told in (("anna", True), ("Anna", False), (None, False), ("anna", True)):
            self.assert_told(thing, told)

    def test_what_is_handed_in_stays_as_it_is(self):
        names, table = ["anna", "bert"], {"anna": 1}
        is_name(names)
        is_name(table)
        self.assertEqual((names, table), (["anna", "bert"], {"anna": 1}))


def good_secrets():
    """Secrets of one to fifteen figures, each once: many small ones, edges and their neighbours."""
    found = list(range(2000))
    for figures in range(1, 16):
        low = 10 ** (figures - 1)
        found += range(low, min(low + 5, 10 * low))
        found += range(max(10 * low - 5, low), 10 * low)
        found += [low * lead + low // 3 for lead in range(1, 10)]
    for bits in range(1, 50):
        found += [2 ** bits - 1, 2 ** bits, 2 ** bits + 1]
        # Every second binary figure is 1, as in 10 and 42.
        found.append(2 ** (bits + 1) // 3)
    return sorted({secret for secret in found if secret <= GREATEST})


class SealTest(unittest.TestCase):
    def test_the_secrets_asked_of(self):
        asked = good_secrets()
        self.assertEqual((asked[0], asked[1], asked[-1]), (0, 1, GREATEST))
        self.assertEqual({len(str(secret)) for secret in asked}, set(range(1, 16)))

    def test_a_whole_number_with_at_most_two_figures_more(self):
        for secret in good_secrets():
            seal = seal_of(secret)
            self.assertIs(type(seal), int)
            self.assertGreaterEqual(seal, 0)
            self.assertLessEqual(len(str(seal)), len(str(secret)) + 2, secret)

    def test_unlike_secrets_have_unlike_seals(self):
        asked = good_secrets()
        self.assertEqual(len({seal_of(secret) for secret in asked}), len(asked))

    def test_no_two_of_the_first_hundred_thousand_are_alike(self):
        self.assertEqual(len({seal_of(secret) for secret in range(100000)}), 100000)

    def test_neighbours_are_unlike_at_each_size(self):
        for figures in range(1, 16):
            edge = 10 ** figures
            near = range(max(0, edge - 1000), min(edge + 1000, GREATEST + 1))
            self.assertEqual(len({seal_of(secret) for secret in near}), len(near))

    def test_asked_again_and_behind_others(self):
        asked = good_secrets()
        told = [seal_of(secret) for secret in asked]
        self.assertEqual([seal_of(secret) for secret in asked], told)
        self.assertEqual([seal_of(secret) for secret in reversed(asked)], told[::-1])
        for secret, seal in zip(asked, told):
            with self.assertRaises(NoSecret):
                seal_of(-1)
            self.assertEqual(seal_of(secret), seal)

    def test_a_seal_may_itself_be_a_secret(self):
        for secret in (0, 1, 999, GREATEST):
            seal = seal_of(seal_of(secret))
            self.assertIs(type(seal), int)
            self.assertLessEqual(len(str(seal)), len(str(seal_of(secret))) + 2)


class NoSecretTest(unittest.TestCase):
    def assert_refused(self, thing):
        with self.assertRaises(NoSecret) as caught:
            seal_of(thing)
        self.assertIs(type(caught.exception), NoSecret)
        self.assertEqual(caught.exception.args, (str(caught.exception),))

    def test_numbers_below_0(self):
        for number in (-1, -2, -7, -10, -999, -GREATEST, -10 ** 5000):
            self.assert_refused(number)

    def test_truths(self):
        self.assert_refused(True)
        self.assert_refused(False)

    def test_texts(self):
        for text in TEXTS:
            self.assert_refused(text)

    def test_what_is_neither_number_nor_text(self):
        for thing in NO_TEXTS:
            if type(thing) is not int:
                self.assert_refused(thing)
        for thing in ((7,), [7], {7: 7}, {7}, b"7", [[7]] * 200):
            self.assert_refused(thing)

    def test_what_is_refused_stays_as_it_is(self):
        numbers, table = [7, 8], {7: 8}
        self.assert_refused(numbers)
        self.assert_refused(table)
        self.assertEqual((numbers, table), ([7, 8], {7: 8}))


class InterfaceTest(unittest.TestCase):
    def test_defined_in_the_file_of_the_interface(self):
        for word in ("is_name", "seal_of"):
            self.assertEqual(getattr(seals, word).__module__, "coinlanes.seals")


if __name__ == "__main__":
    unittest.main()
