"""Points 35 to 38: court deeds, and what is told by the rows of a court."""

import copy
import inspect
import random
import unittest

from coinlanes import runs
from coinlanes.courts import Court
from coinlanes.errors import CoinError, NoCoins, NoHand, NoName, NoNumber, Stuck
from coinlanes.runs import coins_of, court_of, first_wrong, is_deed, told_states
from coinlanes.seals import seal_of
from coinlanes.signs import Signs
from things import ANY, FORTY, GREATEST, NO_NAMES, NO_POSITIVE, NO_WHOLE, exchanged, with_part

PURSES = (("anna", 100), ("bert", 80), ("carl", 0))
S = seal_of(7)
STATES = [(0, 1, 26, 24, ()), (0, 4, 20, 24, ((3, "left", 6, S, 9),)), (1, 2, 0, 5, ((1, "right", 4, S, 1),))]
# Of the lanes 0, of 30 and 20, and 1, of 0 and 9.
DEEDS = [
    ("open", "anna", "bert", 30, 20), ("turn",), ("open", "anna", "bert", 0, 9), ("tell", STATES[0]), ("turn",),
    ("tell", STATES[1]), ("show", 7), ("tell", STATES[2]), ("turn",), ("turn",), ("show", 7), ("turn",), ("turn",),
    ("open", "bert", "anna", 1, 1), ("tell", (2, 0, 1, 1, ())), ("show", 0), ("turn",), ("turn",), ("turn",),
]
ODD_PURSES = [None, [], [("anna", 1)], (("anna",),), (("anna", -1),), (("anna", True),), ("anna", 1), {"anna": 1}]


def signs_for(deeds):
    signs, lanes = Signs(), 0
    for deed in deeds:
        paper = None
        if deed[0] == "open":
            paper, lanes = ("open", lanes) + deed[1:], lanes + 1
        if deed[0] == "tell":
            paper = deed[1]
        for hand in ("anna", "bert", "carl") if paper else ():
            signs.sign(hand, paper)
    return signs


class DeedTest(unittest.TestCase):
    def test_deeds(self):
        good = DEEDS + [
            ("open", "a", "abcdefgh", 0, 0), ("open", "anna", "anna", 1, 1), ("open", "a", "b", FORTY, FORTY),
            ("show", 0), ("show", FORTY), ("tell", (FORTY, 0, 0, 0, ())),
        ]
        for deed in good:
            self.assertIs(is_deed(deed), True)

    def test_what_is_none(self):
        opening, tell, show = DEEDS[0], DEEDS[5], DEEDS[6]
        bad = ANY + [opening[:4], opening + (1,), tell + (1,), show + (7,), ("turn", 1), ("tell",), ("show",), ("open",)]
        bad += [list(deed) for deed in (opening, tell, show, ("turn",))] + ["turn", STATES[0], ("turn", ())]
        for deed in (opening, tell, show, ("turn",)):
            words = ("Open", "turn ", "", "lane", b"turn", None, 0, True, ["turn"], ("turn",))
            bad += [with_part(deed, 0, word) for word in words]
        bad += [with_part(opening, place, part) for place in (3, 4) for part in NO_WHOLE]
        bad += [with_part(opening, place, part) for place in (1, 2) for part in NO_NAMES]
        bad += [exchanged(opening, 1, 3), exchanged(opening, 0, 1), ("open", 0, "anna", "bert", 30, 20)]
        bad += [("show", part) for part in NO_WHOLE]
        bad += [("tell", part) for part in ANY + [list(STATES[0]), STATES[0][:4], (0, 1, 26, True, ()), (0, 1, 1, 1, [])]]
        bad += [("tell",) + STATES[0], ("tell", 7), ("show", STATES[0]), ("turn", 7), ("next", 0, 1, ("pass",), ())]
        for thing in bad:
            self.assertIs(is_deed(thing), False)


class RunTest(unittest.TestCase):
    def setUp(self):
        self.signs = signs_for(DEEDS)

    def assert_refused(self, kind, asked, *told, **named):
        with self.assertRaises(CoinError) as caught:
            asked(*told, **named)
        self.assertIs(type(caught.exception), kind)
        return caught.exception

    def assert_stuck(self, deeds, place, word):
        for found in (deeds, deeds + [("turn",), 7]):
            error = self.assert_refused(Stuck, court_of, self.signs, found, wait=3, purses=PURSES)
            self.assertEqual((error.place, error.word, str(error)), (place, word, f"{place} {word}"))
            self.assertIs(type(error.place), int)

    def court(self, deeds=DEEDS, wait=3):
        return court_of(self.signs, deeds, wait=wait, purses=PURSES)


class CourtOfTest(RunTest):
    def test_deeds_done(self):
        court = self.court()
        self.assertIs(type(court), Court)
        self.assertEqual([deed for deed, _ in court.rows()], DEEDS)
        plain = Court(self.signs, wait=3, purses=PURSES)
        for deed in DEEDS:
            if deed[0] == "open":
                plain.lane(deed[1], deed[2], left_coins=deed[3], right_coins=deed[4])
            else:
                getattr(plain, deed[0])(*deed[1:])
        self.assertEqual(court.rows(), plain.rows())
        self.assertEqual([court.purse(hand) for hand in court.hands()], [plain.purse(hand) for hand in plain.hands()])
        self.assertEqual((court.now(), court.patience(), court.lanes()), (9, 3, 3))
        self.assertEqual([court.stand(lane) for lane in range(3)], [plain.stand(lane) for lane in range(3)])
        self.assertEqual((court.held(), court.shown(S), court.secret(S)), (plain.held(), 2, 7))

    def test_no_deeds(self):
        court = court_of(self.signs, [])
        self.assertEqual((court.rows(), court.hands(), court.now(), court.patience()), ([], [], 0, 6))
        self.assertEqual(self.court([]).hands(), ["anna", "bert", "carl"])

    def test_it_goes_on_from_there(self):
        court = self.court(DEEDS[:3])
        self.assertEqual(court.turn(), [])
        court.tell(STATES[0])
        self.assertEqual(len(court.rows()), 5)

    def test_stuck_at_each_place_with_each_word(self):
        bad = [
            (("open", "anna", "emil", 1, 1), "NoHand", 0), (("open", "anna", "anna", 1, 1), "NoHand", 0),
            (("open", "anna", "bert", 500, 1), "NoCoins", 0), (("open", "anna", "bert", 0, 0), "NoCoins", 0),
            (("open", "anna", "bert", 2, 2), "NotSigned", 0), (("tell", (9, 0, 1, 1, ())), "NoLane", 0),
            (("tell", (0, 7, 25, 25, ())), "NotSigned", 1), (("tell", (0, 1, 26, 23, ())), "NotSigned", 1),
            (("tell", STATES[0]), "Old", 4), (("tell", STATES[0]), "Old", 6), (("tell", STATES[1]), "Settled", 9 + 3),
            (("open", "bert", "anna", 1, 1), "NotSigned", 14),
        ]
        for deed, word, first in bad:
            last = {"Old": 7, "Settled": 19, "NotSigned": 3, "NoLane": 19}.get(word, 2) if first < 14 else 15
            for place in range(first, last):
                self.assert_stuck(DEEDS[:place] + [deed], place, word)

    def test_stuck_where_a_deed_is_none(self):
        for place in range(len(DEEDS) + 1):
            for thing in (None, 7, "turn", ["turn"], ("turn", 1), (), ("show", True), ("open", "Anna", "bert", 1, 1),
                          ("tell", (0, 1, 26, 24, [])), [], DEEDS, (("turn",), [])):
                self.assert_stuck(DEEDS[:place] + [thing], place, "NoDeed")

    def test_stuck_at_once_where_all_is_wrong(self):
        self.assert_stuck([("tell", STATES[0])], 0, "NoLane")
        self.signs = Signs()
        self.assert_stuck(list(DEEDS), 0, "NotSigned")

    def test_refused_as_a_court_ahead_of_deeds(self):
        for asked in (court_of, first_wrong):
            for told in (list(DEEDS), [None], []):
                for wait in NO_POSITIVE + [101]:
                    self.assert_refused(NoNumber, asked, self.signs, told, wait=wait, purses=7)
                for purses in ((("Anna", 1),), (("anna", 1), ("anna", 2)), (("", None),)):
                    self.assert_refused(NoName, asked, self.signs, told, purses=purses)
                for purses in ODD_PURSES:
                    self.assert_refused(NoCoins, asked, self.signs, told, purses=purses)

    def test_what_is_handed_in_stays(self):
        deeds, rows = copy.deepcopy(DEEDS), self.court().rows()
        before = copy.deepcopy(rows)
        papers = self.signs.papers("anna")
        self.court(deeds)
        first_wrong(self.signs, rows, wait=3, purses=PURSES)
        coins_of("anna", rows, purses=PURSES)
        told_states(0, rows)
        self.assertEqual((deeds, rows, self.signs.papers("anna")), (DEEDS, before, papers))


class FirstWrongTest(RunTest):
    def wrong(self, rows, **named):
        return first_wrong(self.signs, rows, **{"wait": 3, "purses": PURSES, **named})

    def test_rows_of_a_courts_own(self):
        rows = self.court().rows()
        self.assertEqual(sum(paid != [] for _, paid in rows), 3)
        for many in range(len(rows) + 1):
            self.assertIsNone(self.wrong(rows[:many]))
        self.assertIsNone(first_wrong(self.signs, []))
        self.assertIsNone(first_wrong(Signs(), [(("turn",), []), (("show", 3), [])]))

    def test_one_paid_otherwise_at_each_place(self):
        rows = self.court().rows()
        for place, (deed, paid) in enumerate(rows):
            others = [paid + [("anna", 1)], tuple(paid), None, [None], paid[:-1] if paid else [("bert", 1)], {}, 7, ""]
            for at, (hand, coins) in enumerate(paid):
                for part in ((hand, coins + 1), (hand, coins - 1), ("carl", coins), [hand, coins], (hand,),
                             (hand, coins, 0), (coins, hand), (hand, str(coins))):
                    others.append(paid[:at] + [part] + paid[at + 1:])
            if len(paid) > 1:
                others.append(paid[::-1])
            for other in others:
                self.assertEqual(self.wrong(rows[:place] + [(deed, other)] + rows[place + 1:]), place)

    def test_a_truth_is_no_number_of_coins(self):
        deeds = [("open", "anna", "bert", 1, 0), ("tell", (0, 0, 1, 0, ())), ("turn",)]
        signs = signs_for(deeds)
        rows = court_of(signs, deeds, wait=1, purses=PURSES).rows()
        self.assertEqual(rows[2], (("turn",), [("anna", 1)]))
        self.assertIsNone(first_wrong(signs, rows, wait=1, purses=PURSES))
        rows[2] = (("turn",), [("anna", True)])
        self.assertEqual(first_wrong(signs, rows, wait=1, purses=PURSES), 2)

    def test_one_deed_otherwise_at_each_place(self):
        rows = self.court().rows()
        others = [None, 7, "turn", ["turn"], ("turn", 1), ("tell", STATES[2][:4]), ("open", "anna", "emil", 1, 1),
                  ("tell", (9, 0, 1, 1, ())), ("open", "anna", "bert", 999, 0), ("open", "anna", "bert", 3, 3)]
        for place, (_, paid) in enumerate(rows):
            for deed in others:
                self.assertEqual(self.wrong(rows[:place] + [(deed, paid)] + rows[place + 1:]), place)

    def test_what_comes_of_it_is_found_where_it_comes(self):
        rows = self.court().rows()
        # One turn left out: the payment comes where nothing is told to be paid, or is missing where it is told.
        for place in (1, 4):
            found = self.wrong(rows[:place] + rows[place + 1:])
            self.assertGreaterEqual(found, place)
            self.assertLess(found, 12)
        # A share told a turn too early.
        paying = [place for place, (_, paid) in enumerate(rows) if paid][0]
        early = rows[:paying - 1] + [rows[paying]] + rows[paying:]
        self.assertEqual(self.wrong(early), paying - 1)

    def test_rows_that_are_none(self):
        rows = self.court().rows()
        for place in range(len(rows)):
            deed, paid = rows[place]
            for row in [None, 7, (), deed, paid, [deed, paid], (deed,), (deed, paid, 0), {0: deed}, "turn", (paid, deed)]:
                self.assertEqual(self.wrong(rows[:place] + [row] + rows[place + 1:]), place)

    def test_the_first_of_several(self):
        rows = self.court().rows()
        rows[9] = rows[4] = (("turn",), [("anna", 5)])
        self.assertEqual(self.wrong(rows), 4)

    def test_by_the_signs_as_they_are_now(self):
        rows = self.court().rows()
        self.assertEqual(first_wrong(Signs(), rows, wait=3, purses=PURSES), 0)
        late = Signs()
        for paper in self.signs.papers("anna")[:2]:
            for hand in ("anna", "bert"):
                late.sign(hand, paper)
        self.assertEqual(first_wrong(late, rows, wait=3, purses=PURSES), 3)
        for paper in self.signs.papers("anna"):
            late.sign("anna", paper)
        self.assertEqual(first_wrong(late, rows, wait=3, purses=PURSES), 3)
        for paper in self.signs.papers("anna"):
            late.sign("bert", paper)
        self.assertIsNone(first_wrong(late, rows, wait=3, purses=PURSES))

    def test_by_wait_and_purses(self):
        rows = self.court().rows()
        self.assertEqual(self.wrong(rows, wait=4), [place for place, (_, paid) in enumerate(rows) if paid][0])
        self.assertEqual(self.wrong(rows, purses=(("anna", 29), ("bert", 80))), 0)
        self.assertEqual(self.wrong(rows, purses=(("anna", 30), ("bert", 28))), 2)
        self.assertEqual(self.wrong(rows, purses=()), 0)


class RowsTest(RunTest):
    def test_coins_by_the_rows(self):
        rows = self.court().rows()
        for many in range(len(rows) + 1):
            court = self.court(DEEDS[:many])
            for hand, _ in PURSES:
                self.assertEqual(coins_of(hand, rows[:many], purses=PURSES), court.purse(hand))

    def test_a_hand_that_has_no_purse(self):
        rows = self.court().rows()
        for hand in NO_NAMES + ["emil", "ann"]:
            self.assert_refused(NoHand, coins_of, hand, rows, purses=PURSES)
        for hand in ("anna", "bert"):
            self.assert_refused(NoHand, coins_of, hand, rows)
            self.assert_refused(NoHand, coins_of, hand, [])
        self.assertEqual(coins_of("carl", rows, purses=PURSES), 0)
        self.assertEqual(coins_of("anna", [], purses=PURSES), 100)

    def test_states_told(self):
        rows = self.court().rows()
        self.assertEqual(told_states(0, rows), STATES[:2])
        self.assertEqual(told_states(1, rows), STATES[2:])
        self.assertEqual(told_states(2, rows), [(2, 0, 1, 1, ())])
        self.assertEqual(told_states(0, rows[:5]), STATES[:1])
        for lane in (3, 9, GREATEST, FORTY):
            self.assertEqual(told_states(lane, rows), [])
        self.assertEqual(told_states(0, []), [])
        self.assertEqual(told_states(True, rows), [])

    def test_told_lists_are_the_askers(self):
        rows = self.court().rows()
        one, other = told_states(0, rows), told_states(0, rows)
        self.assertIs(type(one), list)
        one.clear()
        self.assertEqual((other, told_states(0, rows)), (STATES[:2], STATES[:2]))

    def test_courts_of_many_deeds(self):
        chance = random.Random(8)
        for _ in range(60):
            deeds = []
            for _ in range(80):
                lane = chance.randint(0, 5)
                deeds.append(chance.choice([
                    ("turn",), ("show", chance.randint(0, 3)), ("open", *chance.sample(["anna", "bert", "carl"], 2),
                                                                chance.randint(0, 9), chance.randint(0, 9)),
                    ("tell", (lane, chance.randint(0, 9), chance.randint(0, 9), chance.randint(0, 9), ())),
                    ("tell", (lane, 5, chance.randint(0, 9), 3, ((2, "left", 2, seal_of(1), chance.randint(0, 9)),)))]))
            done = self.play(deeds)
            rows = court_of(self.signs, done, wait=2, purses=PURSES).rows()
            self.assertIsNone(first_wrong(self.signs, rows, wait=2, purses=PURSES))
            court = court_of(self.signs, done, wait=2, purses=PURSES)
            for hand, _ in PURSES:
                self.assertEqual(coins_of(hand, rows, purses=PURSES), court.purse(hand))
            for lane in range(6):
                due = [deed[1] for deed in done if deed[0] == "tell" and deed[1][0] == lane]
                self.assertEqual(told_states(lane, rows), due)

    def play(self, deeds):
        """The deeds that are not refused where each paper is signed ahead of its deed."""
        self.signs, done, lanes = Signs(), [], 0
        for deed in deeds:
            paper = ("open", lanes) + deed[1:] if deed[0] == "open" else deed[-1]
            for hand in ("anna", "bert", "carl"):
                if deed[0] in ("open", "tell") and (deed[0] == "tell" or deed[3] + deed[4] > 0):
                    self.signs.sign(hand, paper)
            try:
                court_of(self.signs, done + [deed], wait=2, purses=PURSES)
            except Stuck as error:
                self.assertEqual(error.place, len(done))
                continue
            done.append(deed)
            lanes += deed[0] == "open"
        return done


class InterfaceTest(unittest.TestCase):
    def test_names_and_arguments(self):
        due = {
            "is_deed": "(thing)", "court_of": "(signs, deeds, *, wait=6, purses=())",
            "first_wrong": "(signs, rows, *, wait=6, purses=())", "coins_of": "(hand, rows, *, purses=())",
            "told_states": "(lane, rows)",
        }
        for word, arguments in due.items():
            asked = getattr(runs, word)
            self.assertEqual((asked.__module__, str(inspect.signature(asked))), ("coinlanes.runs", arguments))


if __name__ == "__main__":
    unittest.main()
