"""Point 8: papers, and who signed them."""

import inspect
import unittest

from coinlanes import signs
from coinlanes.errors import NoName, NoPaper
from coinlanes.signs import Signs
from things import ANY, FORTY, GREATEST, NO_NAMES, NO_WHOLE, exchanged, with_part

LOCK = (3, "left", 5, 40, 9)
STATE = (4, 9, 20, 30, (LOCK,))
OPENING = ("open", 4, "anna", "bert", 20, 30)
PAPERS = [
    STATE, OPENING, (0, 0, 0, 0, ()), ("open", 0, "a", "b", 0, 1), ("open", 0, "a", "b", 1, 0),
    (FORTY, FORTY, FORTY, FORTY, ((FORTY, "right", FORTY, FORTY, FORTY),)),
    ("open", FORTY, "abcdefgh", "z", FORTY, FORTY),
]
HANDS = ["anna", "bert", "carl", "a", "abcdefgh"]


def no_papers():
    found = list(ANY)
    for paper in (STATE, OPENING):
        found += [list(paper), (paper,), [paper], {paper: 1}, paper + (0,), (0,) + paper]
        found += [paper[:place] + paper[place + 1:] for place in range(len(paper))]
    for place in range(5):
        found += [with_part(STATE, place, part) for part in (True, None, "7", [1], -1)]
        found.append(with_part(STATE, 4, (with_part(LOCK, place, True),)))
    found += [exchanged(STATE, 4, place) for place in range(4)]
    found += [with_part(STATE, 4, [LOCK]), with_part(STATE, 4, (list(LOCK),)), with_part(STATE, 1, 2)]
    words = ("Open", "open ", "", "lane", "turn", b"open", 0, None, True, ["open"])
    found += [with_part(OPENING, 0, word) for word in words]
    for place in (1, 4, 5):
        found += [with_part(OPENING, place, part) for part in NO_WHOLE]
    for place in (2, 3):
        found += [with_part(OPENING, place, part) for part in NO_NAMES]
    found += [with_part(OPENING, 3, "anna"), with_part(OPENING, 2, "bert")]
    found += [("open", 4, "anna", "bert", 0, 0), ("open", 4, "anna", "anna", 1, 1)]
    found += [exchanged(OPENING, one, other) for one, other in ((0, 1), (1, 2), (3, 4), (0, 2), (2, 5))]
    return found + [LOCK, ("pass",), ("next", 0, 1, ("pass",), ()), ("open", "anna", "bert", 20, 30), ("tell", STATE)]


class SignTest(unittest.TestCase):
    def test_at_first(self):
        kept = Signs()
        for hand in HANDS:
            self.assertEqual(kept.papers(hand), [])
            for paper in PAPERS:
                self.assertIs(kept.signed(hand, paper), False)

    def test_signing_tells_nothing(self):
        self.assertIsNone(Signs().sign("anna", STATE))

    def test_each_paper(self):
        kept = Signs()
        for place, paper in enumerate(PAPERS):
            self.assertIs(kept.signed("anna", paper), False)
            kept.sign("anna", paper)
            self.assertIs(kept.signed("anna", paper), True)
            self.assertIs(kept.signed("bert", paper), False)
            self.assertEqual(kept.papers("anna"), PAPERS[:place + 1])
        self.assertEqual(kept.papers("bert"), [])

    def test_one_hand_asked_does_not_come_to_be(self):
        kept = Signs()
        kept.signed("carl", STATE)
        kept.papers("carl")
        kept.sign("anna", STATE)
        self.assertIs(kept.signed("carl", STATE), False)
        self.assertEqual(kept.papers("carl"), [])

    def test_two_signs_by_turns(self):
        one, other = Signs(), Signs()
        one.sign("anna", STATE)
        other.sign("anna", OPENING)
        one.sign("bert", OPENING)
        other.sign("bert", STATE)
        self.assertEqual((one.papers("anna"), one.papers("bert")), ([STATE], [OPENING]))
        self.assertEqual((other.papers("anna"), other.papers("bert")), ([OPENING], [STATE]))
        self.assertEqual([one.signed("anna", STATE), one.signed("anna", OPENING)], [True, False])
        self.assertEqual([other.signed("anna", STATE), other.signed("anna", OPENING)], [False, True])
        one.sign("anna", OPENING)
        self.assertEqual(other.papers("anna"), [OPENING])
        self.assertEqual(one.papers("anna"), [STATE, OPENING])

    def test_signed_again(self):
        kept = Signs()
        for paper in PAPERS + PAPERS[::-1] + PAPERS[:3]:
            kept.sign("anna", paper)
        self.assertEqual(kept.papers("anna"), PAPERS)
        for paper in PAPERS:
            self.assertIs(kept.signed("anna", paper), True)

    def test_the_order_of_papers(self):
        kept = Signs()
        order = [PAPERS[place] for place in (3, 0, 6, 1, 5, 2, 4)]
        for paper in order:
            kept.sign("anna", paper)
            kept.sign("bert", paper)
        self.assertEqual(kept.papers("anna"), order)
        self.assertEqual(kept.papers("bert"), order)
        kept.sign("anna", PAPERS[5])
        self.assertEqual(kept.papers("anna"), order)

    def test_many_papers(self):
        kept = Signs()
        papers = [(0, number * 37 % 400, 1, 2, ()) for number in range(400)]
        for paper in papers:
            kept.sign("anna", paper)
        self.assertEqual(kept.papers("anna"), papers)

    def test_papers_made_anew_are_the_same(self):
        kept = Signs()
        for paper in PAPERS:
            kept.sign("anna", paper)
            self.assertIs(kept.signed("anna", eval(repr(paper))), True)
            kept.sign("anna", eval(repr(paper)))
        self.assertEqual(kept.papers("anna"), PAPERS)

    def test_papers_that_differ_in_one_part(self):
        others = [with_part(STATE, place, STATE[place] + 1) for place in range(4)]
        others += [with_part(STATE, 4, ()), with_part(STATE, 4, (LOCK, (9, "left", 1, 1, 1)))]
        for place in (0, 2, 3, 4):
            others.append(with_part(STATE, 4, (with_part(LOCK, place, LOCK[place] + 1),)))
        others.append(with_part(STATE, 4, (with_part(LOCK, 1, "right"),)))
        others += [with_part(OPENING, place, OPENING[place] + 1) for place in (1, 4, 5)]
        others += [with_part(OPENING, 2, "carl"), with_part(OPENING, 3, "carl"), exchanged(OPENING, 2, 3)]
        kept = Signs()
        kept.sign("anna", STATE)
        kept.sign("anna", OPENING)
        for paper in others:
            self.assertIs(kept.signed("anna", paper), False)
        for place, paper in enumerate(others):
            kept.sign("anna", paper)
            self.assertEqual(kept.papers("anna"), [STATE, OPENING] + others[:place + 1])

    def test_a_hand_signs_what_does_not_name_it(self):
        kept = Signs()
        kept.sign("carl", OPENING)
        self.assertIs(kept.signed("carl", OPENING), True)
        self.assertIs(kept.signed("anna", OPENING), False)

    def test_told_lists_are_the_askers(self):
        kept = Signs()
        self.assertIs(type(kept.papers("anna")), list)
        kept.papers("anna").append(STATE)
        self.assertEqual(kept.papers("anna"), [])
        self.assertIs(kept.signed("anna", STATE), False)
        kept.sign("anna", STATE)
        kept.sign("anna", OPENING)
        one, other = kept.papers("anna"), kept.papers("anna")
        self.assertIsNot(one, other)
        one.reverse()
        one.append(7)
        self.assertEqual(other, [STATE, OPENING])
        self.assertEqual(kept.papers("anna"), [STATE, OPENING])
        kept.papers("anna").clear()
        self.assertIs(kept.signed("anna", STATE), True)


class RefusedTest(unittest.TestCase):
    def assert_refused(self, kind, asked, *told):
        with self.assertRaises(kind) as caught:
            asked(*told)
        self.assertIs(type(caught.exception), kind)

    def test_papers_that_are_none(self):
        kept = Signs()
        kept.sign("anna", STATE)
        for thing in no_papers():
            self.assert_refused(NoPaper, kept.sign, "anna", thing)
            self.assert_refused(NoPaper, kept.signed, "anna", thing)
            self.assert_refused(NoPaper, kept.signed, "bert", thing)
        self.assertEqual(kept.papers("anna"), [STATE])

    def test_names_that_are_none(self):
        kept = Signs()
        kept.sign("anna", STATE)
        for thing in NO_NAMES:
            self.assert_refused(NoName, kept.sign, thing, STATE)
            self.assert_refused(NoName, kept.signed, thing, STATE)
            self.assert_refused(NoName, kept.papers, thing)
        self.assertEqual(kept.papers("anna"), [STATE])

    def test_no_name_ahead_of_no_paper(self):
        kept = Signs()
        for paper in no_papers():
            self.assert_refused(NoName, kept.sign, "Anna", paper)
            self.assert_refused(NoName, kept.signed, "Anna", paper)
        for name in NO_NAMES:
            self.assert_refused(NoName, kept.sign, name, None)
            self.assert_refused(NoName, kept.signed, name, None)

    def test_openings_at_their_edges(self):
        kept = Signs()
        good = [("open", 0, "a", "b", 1, 0), ("open", 0, "b", "a", 0, 1), ("open", GREATEST, "a", "ab", 1, 1)]
        for paper in good:
            kept.sign("anna", paper)
        for paper in [("open", -1, "a", "b", 1, 1), ("open", 0, "a", "b", 0, 0), ("open", 0, "a", "a", 1, 1),
                      ("open", 0, "a", "b", -1, 1), ("open", 0, "a", "b", 2, -1), ("open", 0, "", "b", 1, 1),
                      ("open", 0, "a", "b", True, 1), ("open", 0, "a", "b", 1, False),
                      ("open", False, "a", "b", 1, 1)]:
            self.assert_refused(NoPaper, kept.sign, "anna", paper)
        self.assertEqual(kept.papers("anna"), good)

    def test_what_is_handed_in_stays_as_it_is(self):
        things = [[1, 2], {"a": 1}, list(STATE), [STATE]]
        shown = repr(things)
        for thing in things:
            self.assert_refused(NoPaper, Signs().sign, "anna", thing)
            self.assert_refused(NoName, Signs().papers, thing)
        self.assertEqual(repr(things), shown)


class InterfaceTest(unittest.TestCase):
    def test_names_and_arguments(self):
        self.assertEqual(Signs.__module__, "coinlanes.signs")
        self.assertEqual(signs.Signs, Signs)
        for word, names in {"sign": "self hand paper", "signed": "self hand paper", "papers": "self hand"}.items():
            self.assertIn(word, vars(Signs))
            self.assertEqual(list(inspect.signature(getattr(Signs, word)).parameters), names.split())


if __name__ == "__main__":
    unittest.main()
