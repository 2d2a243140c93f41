"""Points 40 and 41: a desk, and the rows that it answers."""

import inspect
import unittest

from coinlanes.desk import Desk
from coinlanes.errors import (
    Begun, CoinError, NoBill, NoCoins, NoFees, NoHand, NoLane, NoLetter, NoNumber, NoRow, NoWay, Old, Settled, Twice)
from coinlanes.seals import seal_of
from things import ANY, GREATEST

S = seal_of(7)
FORMS = {
    "town": "5 2 1 10", "come": "emil 5", "lane": "anna bert 5 6", "bill": "anna 8 9", "pay": f"anna carl {S} 20 9",
    "give": "anna 0 5", "step": "anna bert", "rest": "", "turn": "", "shut": "anna 0", "purse": "anna",
    "sure": "anna", "now": "", "lie": "", "state": "0", "receipts": "anna", "hands": "",
}


class DeskTest(unittest.TestCase):
    def setUp(self):
        self.desk = Desk()

    def said(self, rows):
        """Say rows, parted by line ends, each with its answer behind a stroke and a larger-than sign."""
        for row in rows.strip().split("\n"):
            row, answer = row.strip().split(" => ")
            self.assertEqual(self.desk.say(row), answer, row)

    def town(self):
        self.said(f"""town 5 2 1 100 => ok
            come carl 1000 => ok
            come anna 1000 => ok
            come bert 1000 => ok
            lane anna bert 200 200 => 0
            lane bert carl 200 200 => 1
            bill carl 7 20 => {S}""")

    def everything(self):
        hands = [] if self.desk.say("hands") == "none" else self.desk.say("hands").split(" ")
        found = [self.desk.say(word) for word in ("hands", "now", "lie")]
        found += [self.desk.say(f"{word} {hand}") for hand in hands for word in ("purse", "sure", "receipts")]
        for lane in range(10):
            try:
                found.append(self.desk.say(f"state {lane}"))
            except NoLane:
                return found
        return found

    def assert_refused(self, kind, row):
        before = self.everything()
        with self.assertRaises(CoinError) as caught:
            self.desk.say(row)
        self.assertIs(type(caught.exception), kind, row)
        self.assertEqual(self.everything(), before)


class SayTest(DeskTest):
    def test_at_first(self):
        self.said("""hands => none
            now => 0
            lie => 0
            rest => 0
            turn => ok
            now => 1
            hands => none""")

    def test_the_first_town_has_the_bounds(self):
        self.said(f"""come anna 500 => ok
            come bert 500 => ok
            come carl 500 => ok
            lane anna bert 300 0 => 0
            lane bert carl 300 0 => 1
            bill carl 7 200 => {S}
            pay anna carl {S} 200 9 => 0:203 1:200
            step anna bert => ok
            state 0 => 0 0 300 0 | 0 1 97 0 1:left:203:{S}:11
            shut carl 1 => ok
            turn => ok
            turn => ok
            turn => ok
            turn => ok
            turn => ok
            purse bert => 200
            turn => ok
            purse bert => 500""")

    def test_a_payment_row_by_row(self):
        self.town()
        self.said(f"""hands => anna bert carl
            purse anna => 800
            purse bert => 600
            sure bert => 1000
            state 1 => 1 0 200 200 | 1 0 200 200
            receipts anna => none
            pay anna carl {S} 20 9 => 0:23 1:20
            lie => 1
            step anna bert => ok
            lie => 2
            state 0 => 0 0 200 200 | 0 1 177 200 1:left:23:{S}:11
            rest => 7
            lie => 0
            state 0 => 0 2 177 223 | 0 2 177 223
            state 1 => 1 2 180 220 | 1 2 180 220
            receipts anna => {S}:7:23
            receipts bert => none
            sure anna => 977
            sure bert => 1003
            sure carl => 1020
            purse carl => 800
            now => 0""")

    def test_several_receipts_by_seals(self):
        self.town()
        for secret in (3, 9, 4):
            self.said(f"""bill bert {secret} 5 => {seal_of(secret)}
                pay anna bert {seal_of(secret)} 5 9 => 0:5""")
            self.desk.say("rest")
        due = " ".join(f"{seal_of(secret)}:{secret}:5" for secret in sorted((3, 9, 4), key=seal_of))
        self.assertEqual(self.desk.say("receipts anna"), due)

    def test_gifts_turns_and_lanes_shut(self):
        self.town()
        self.said("""give bert 0 30 => ok
            lie => 1
            rest => 5
            give carl 1 200 => ok
            rest => 5
            state 1 => 1 2 400 0 | 1 2 400 0
            shut anna 0 => ok
            turn => ok
            shut carl 1 => ok
            turn => ok
            turn => ok
            turn => ok
            purse anna => 800
            turn => ok
            purse anna => 1030
            purse bert => 770
            turn => ok
            purse bert => 1170
            purse carl => 800
            now => 6
            state 0 => 0 2 230 170 | 0 2 230 170""")

    def test_a_lane_of_one_side_alone(self):
        self.said("""come a 5 => ok
            come abcdefgh 0 => ok
            lane abcdefgh a 0 5 => 0
            state 0 => 0 0 0 5 | 0 0 0 5
            purse a => 0
            sure a => 5
            hands => a abcdefgh""")

    def test_a_new_town_forgets_all(self):
        self.town()
        self.desk.say(f"pay anna carl {S} 20 9")
        self.desk.say("turn")
        self.said("""town 1 1 0 0 => ok
            hands => none
            now => 0
            lie => 0
            come anna 5 => ok
            purse anna => 5""")
        self.assert_refused(NoLane, "state 0")
        self.assert_refused(NoHand, "purse bert")

    def test_waits_gaps_and_fees(self):
        self.said(f"""town 1 3 5 1000 => ok
            come anna 100 => ok
            come bert 100 => ok
            come carl 100 => ok
            lane anna bert 50 0 => 0
            lane bert carl 50 0 => 1
            bill carl 7 20 => {S}
            pay anna carl {S} 20 4 => 0:45 1:20
            step anna bert => ok
            state 0 => 0 0 50 0 | 0 1 5 0 1:left:45:{S}:7
            shut bert 0 => ok
            turn => ok
            purse anna => 55""")

    def test_two_desks_by_turns(self):
        one, other = Desk(), Desk()
        one.say("come anna 5")
        self.assertEqual((one.say("hands"), other.say("hands")), ("anna", "none"))
        other.say("turn")
        self.assertEqual((one.say("now"), other.say("now")), ("0", "1"))
        self.assertEqual(one.say("come bert 7"), "ok")
        with self.assertRaises(Begun):
            other.say("come bert 7")

    def test_fifteen_figures(self):
        self.said(f"""come anna {GREATEST} => ok
            come bert 0 => ok
            lane anna bert {GREATEST} 0 => 0
            purse anna => 0
            give anna 0 {GREATEST} => ok
            rest => 2
            sure bert => {GREATEST}
            state 0 => 0 1 0 {GREATEST} | 0 1 0 {GREATEST}
            bill bert {GREATEST} {GREATEST} => {seal_of(GREATEST)}""")


class NoRowTest(DeskTest):
    def test_things_that_are_no_text(self):
        self.town()
        for thing in [thing for thing in ANY if not isinstance(thing, str)] + [b"now", ["now"], ("now",), {"now": 1}]:
            self.assert_refused(NoRow, thing)

    def test_other_texts(self):
        self.town()
        for row in ["", " ", "Now", "NOW", "nows", "no", "none", "town 5 2 1 100 ", "x" * 2000, "trail", "told", "open",
                    "inside", "rest rest", "lying", "pay", "0", "7 now", "anna", "hear anna bert", "wake"]:
            self.assert_refused(NoRow, row)

    def test_words_more_or_less_and_blanks(self):
        self.town()
        for word, rest in FORMS.items():
            words = [word] + (rest.split(" ") if rest else [])
            row = " ".join(words)
            bad = [row + " ", " " + row, row + "\n", row + "\t", row + " 5", row + " anna", row + ":", row.upper()]
            bad += [" ".join(words[:at] + words[at + 1:]) for at in range(len(words))]
            bad += [" ".join(words[:at] + [""] + words[at:]) for at in range(len(words) + 1)]
            bad += ["\t".join(words), "  ".join(words)] if len(words) > 1 else []
            for other in bad:
                self.assert_refused(NoRow, other)

    def test_words_that_are_none_at_every_place(self):
        self.town()
        numbers = ["00", "01", "-1", "+1", "1.0", "1_0", "x", "anna", "", str(GREATEST + 1), "0" * 16, "1" * 16,
                   "\u0661", "\u00b2", "\uff11", "1:2", "1,", "0x1", "1e3", "None", "True"]
        names = ["Anna", "anna1", "1", "0", "abcdefghi", "", "an-na", "\u00e4nna", "anna:", "ann\u0251", "_anna"]
        for word, rest in FORMS.items():
            words = rest.split(" ") if rest else []
            for at, good in enumerate(words):
                for bad in numbers if good.isdigit() else names:
                    self.assert_refused(NoRow, " ".join([word] + words[:at] + [bad] + words[at + 1:]))

    def test_ahead_of_what_the_town_refuses(self):
        self.town()
        for row in ["come emil 01", "come anna", "lane emil emil 5", "lane anna anna 0 00", "bill emil 7 -1",
                    "pay emil carl 5 0 00", "give emil 9 00", "step emil", "shut emil 09", "purse emil x", "state 09",
                    "town 0 0 0 01", "town 0 99 0"]:
            self.assert_refused(NoRow, row)


class RefusedTest(DeskTest):
    def test_as_the_town_refuses(self):
        self.town()
        self.said(f"""pay anna carl {S} 20 9 => 0:23 1:20
            bill carl 8 1 => {seal_of(8)}
            shut carl 1 => ok""")
        due = {
            "come emil 5": Begun, "come anna 5": Begun, "lane emil anna 5 5": NoHand, "lane anna emil 5 5": NoHand,
            "lane anna anna 5 5": NoHand, "lane anna bert 0 0": NoCoins, "lane anna bert 801 0": NoCoins,
            "bill emil 7 1": NoHand, "bill anna 9 0": NoCoins, "bill anna 7 1": Twice, "bill carl 7 1": Twice,
            f"pay emil carl {S} 1 1": NoHand, f"pay anna emil {S} 1 1": NoHand, f"pay anna anna {S} 1 1": NoHand,
            "pay anna carl 5 1 1": NoBill, f"pay anna bert {S} 1 1": NoBill, f"pay bert carl {S} 1 1": Twice,
            f"pay anna carl {seal_of(8)} 0 1": NoCoins, f"pay anna carl {seal_of(8)} 1 0": NoNumber,
            f"pay anna carl {seal_of(8)} 1 1": NoWay, "give emil 0 5": NoHand, "give anna 1 5": NoLane,
            "give anna 0 0": NoCoins, "give bert 1 5": Settled, "give anna 0 201": NoCoins, "step emil anna": NoHand,
            "step anna emil": NoHand, "step anna anna": NoLetter, "step carl anna": NoLetter, "shut emil 0": NoHand,
            "shut anna 1": NoLane, "shut anna 9": NoLane, "shut bert 1": Old, "purse emil": NoHand, "sure emil": NoHand,
            "receipts emil": NoHand, "state 2": NoLane, f"state {GREATEST}": NoLane, "town 0 2 1 10": NoNumber,
            "town 101 2 1 10": NoNumber, "town 5 0 1 10": NoNumber, "town 5 51 1 10": NoNumber,
            "town 5 2 1 1001": NoFees, "town 0 0 1 1001": NoNumber,
        }
        for row, kind in due.items():
            self.assert_refused(kind, row)
        for _ in range(5):
            self.desk.say("turn")
        self.assert_refused(Settled, "shut bert 1")

    def test_come_in_a_town_that_has_not_begun(self):
        self.desk.say("come anna 5")
        self.assert_refused(Twice, "come anna 6")
        # What was no row did not begin anything, nor did what was refused.
        for row in ("rest ", "turn 1", "lane anna bert 1 1", "now", "hands", "purse anna"):
            try:
                self.desk.say(row)
            except CoinError:
                pass
        self.assertEqual(self.desk.say("come bert 6"), "ok")
        self.desk.say("rest")
        self.assert_refused(Begun, "come carl 7")


class InterfaceTest(unittest.TestCase):
    def test_names_and_arguments(self):
        self.assertEqual(Desk.__module__, "coinlanes.desk")
        self.assertEqual(str(inspect.signature(Desk)), "()")
        self.assertEqual(str(inspect.signature(vars(Desk)["say"])), "(self, row)")


if __name__ == "__main__":
    unittest.main()
