"""Points 25 and 31: what a keeper tells and shows at the court, and what it surely has."""

import unittest

from coinlanes.errors import CoinError, NoLetter, NoStep
from coinlanes.seals import seal_of
from things import TwoLanesTest

SEALS = [seal_of(secret) for secret in range(60)]
S = SEALS[7]
PASS = ("pass",)


class LaneTest(TwoLanesTest):
    def behind(self):
        """The deeds of the court, the openings aside."""
        return [deed for deed, _ in self.court.rows() if deed[0] not in ("open", "turn")]

    def looks(self):
        """Each way to let the keeper look, and whether it is refused."""
        return [
            (lambda: self.keeper.wake(), None), (lambda: self.keeper.hear("bert", ("turn", 0)), NoLetter),
            (lambda: self.keeper.hear("carl", ("turn", 1)), None), (lambda: self.keeper.hear(7, None), NoLetter),
            (lambda: self.keeper.hear("carl", self.letter(1, ("lock", "left", 1, 1, 50))), NoStep),
            (lambda: self.keeper.give(1, 2), None), (lambda: self.keeper.pay(((1, 2, 40),), seal=99), None),
            (lambda: self.keeper.shut(1), None),
        ]

    def hold(self, lane, state):
        """A state is told by stealth and its lane is settled; no look was there."""
        self.court.tell(self.sign_all(state))
        for _ in range(self.WAIT):
            self.court.turn()
        self.assertEqual(self.court.stand(lane)[0], "settled")


class TellTest(LaneTest):
    def test_the_newest_state_at_each_look(self):
        for place in range(8):
            self.setUp()
            self.propose(0, ("pay", "left", 9))
            self.pass_on(1)
            self.court.tell((0, 0, 100, 100, ()))
            look, kind = self.looks()[place]
            if kind is None:
                look()
            else:
                with self.assertRaises(kind):
                    look()
            self.assertIn(("tell", (0, 1, 91, 109, ())), self.behind()[1:])
            self.assertEqual(self.court.stand(0)[4:], ((0, 1, 91, 109, ()), self.WAIT))

    def test_at_nothing_else(self):
        self.propose(0, ("pay", "left", 9))
        self.court.tell((0, 0, 100, 100, ()))
        self.keeper.bill(7)
        self.keeper.agree(("open", 2, "anna", "bert", 1, 1))
        for asked in (self.keeper.lanes, self.keeper.receipts, self.keeper.surely, self.keeper.waiting):
            asked()
        refused = [lambda: self.keeper.bill(7), lambda: self.keeper.give(0, 1), lambda: self.keeper.give(1, 101),
                   lambda: self.keeper.pay((), seal=1), lambda: self.keeper.shut(5), lambda: self.keeper.agree(None)]
        for deed in refused:
            self.assertRaises(CoinError, deed)
        self.assertEqual(len(self.behind()), 1)
        self.keeper.wake()
        self.assertEqual(len(self.behind()), 2)

    def test_told_once_and_only_what_is_newer(self):
        self.propose(0, ("pay", "left", 9))
        newest = self.keeper.newest(0)
        for state in ((0, 0, 100, 100, ()), newest):
            self.setUp()
            self.propose(0, ("pay", "left", 9))
            self.court.tell(state)
            self.keeper.wake()
            self.keeper.wake()
            self.assertEqual(self.behind()[-1], ("tell", newest))
            self.assertEqual(len(self.behind()), 1 + (state[1] == 0))
        self.court.tell(self.sign_all((0, 7, 0, 200, ())))
        self.keeper.wake()
        self.assertEqual(self.court.stand(0)[4][1], 7)

    def test_not_the_pending_state(self):
        self.keeper.give(1, 30)
        self.signs.sign("carl", self.keeper.pending(1))
        self.court.tell((1, 0, 100, 100, ()))
        self.keeper.wake()
        self.assertEqual(len(self.behind()), 1)
        # Carl tells it: then it stands, and the keeper has nothing newer.
        self.court.tell(self.keeper.pending(1))
        self.keeper.wake()
        self.assertEqual(len(self.behind()), 2)

    def test_neither_of_open_nor_of_settled_lanes(self):
        self.propose(0, ("pay", "left", 9))
        self.turns(3)
        self.assertEqual(self.behind(), [])
        self.hold(0, (0, 0, 100, 100, ()))
        self.turns(3)
        self.assertEqual(len(self.behind()), 1)

    def test_lanes_rising_and_ahead_of_what_is_shown(self):
        self.lane("dora", "anna")
        self.keeper.bill(7, amount=5)
        self.keeper.bill(3)
        for lane in (2, 0):
            self.propose(lane, ("pay", "left", 9))
            self.pass_on(lane)
            self.offer(lane, 20, S, 2)
        self.pass_on(1)
        self.propose(1, ("lock", "right", 4, SEALS[3], 2))
        for lane in (2, 1, 0):
            self.court.tell(self.first(lane))
        self.court.turn()
        self.keeper.wake()
        tells = [("tell", self.keeper.newest(lane)) for lane in (0, 1, 2)]
        shows = [("show", secret) for _, secret in sorted([(S, 7), (SEALS[3], 3)])]
        self.assertEqual(self.behind()[3:], tells + shows)

    def first(self, lane):
        return (lane, 0, 100, 100, ())


class ShowTest(LaneTest):
    def billed(self, last, secret=7, amount=20, lane=0):
        """A lock that it billed stands on a lane; the keeper's fold is pending."""
        self.keeper.bill(secret, amount=20)
        return self.offer(lane, amount, SEALS[secret], last)

    def test_just_ahead_of_the_last_look(self):
        for gap in (1, 2, 4):
            self.GAP = gap
            self.setUp()
            self.billed(10)
            for turn in range(1, 11 - gap):
                self.turns(1)
                self.assertEqual((self.court.now(), self.behind()), (turn, []))
            self.turns(1)
            self.assertEqual(self.behind(), [("show", 7)])
            self.assertEqual(self.court.shown(S), 11 - gap)

    def test_at_each_look(self):
        for place in range(8):
            self.setUp()
            self.billed(6)
            self.pass_on(1)
            for _ in range(5):
                self.court.turn()
            look, kind = self.looks()[place]
            if place == 1:
                # On an open lane a turn is no letter to be refused.
                kind = None
            if kind is None:
                look()
            else:
                with self.assertRaises(kind):
                    look()
            self.assertEqual(self.behind()[0 if place < 7 else 1], ("show", 7))

    def test_as_soon_as_it_is_heard_of(self):
        self.billed(1)
        self.assertEqual(self.behind(), [("show", 7)])
        self.setUp()
        self.billed(0)
        self.assertEqual(self.behind(), [("show", 7)])

    def test_shown_once_by_seals_rising(self):
        secrets = sorted([9, 4, 6], key=seal_of)
        lanes = [0, self.lane("dora", "anna"), self.lane("bert", "anna")]
        for lane, secret in zip(lanes, (6, 9, 4)):
            self.billed(10, secret=secret, lane=lane)
        self.turns(9)
        self.assertEqual(self.behind(), [("show", secret) for secret in secrets])
        self.turns(3)
        self.assertEqual(len(self.behind()), 3)

    def test_not_what_another_one_has_shown(self):
        self.billed(6)
        self.court.show(7)
        self.turns(6)
        self.assertEqual(self.behind(), [("show", 7)])

    def test_not_what_was_folded(self):
        self.billed(6)
        self.accept(0)
        self.turns(8)
        self.assertEqual(self.behind(), [])

    def test_not_for_less_than_billed(self):
        self.billed(6, amount=19)
        self.turns(8)
        self.assertEqual(self.behind(), [])

    def test_not_when_it_is_dead(self):
        self.billed(6)
        for _ in range(7):
            self.court.turn()
        self.keeper.wake()
        self.assertEqual(self.behind(), [])

    def test_not_for_a_lock_that_it_gave(self):
        self.keeper.bill(7)
        self.keeper.pay(((1, 20, 6),), seal=S)
        self.accept(1)
        self.turns(6)
        self.assertEqual(self.behind(), [])

    def test_not_for_one_that_it_gave_and_the_court_holds(self):
        self.keeper.bill(7)
        self.keeper.pay(((1, 20, 9),), seal=S)
        self.accept(1)
        self.keeper.shut(1)
        self.turns(self.WAIT)
        self.assertEqual(len(self.court.held()), 1)
        self.turns(9 - self.WAIT)
        self.assertEqual([deed[0] for deed in self.behind()], ["tell"])
        self.turns(1)
        self.assertEqual(self.court.purse("anna"), 900)

    def test_while_the_lane_is_closing(self):
        self.billed(6)
        self.keeper.shut(0)
        self.turns(4)
        self.assertEqual([deed[0] for deed in self.behind()], ["tell"])
        self.turns(1)
        self.assertEqual(self.behind()[1:], [("show", 7)])

    def test_of_a_lock_that_the_court_holds(self):
        self.billed(14)
        self.keeper.shut(0)
        self.turns(12)
        self.assertEqual((len(self.court.held()), len(self.behind())), (1, 1))
        self.turns(1)
        self.assertEqual(self.behind()[1:], [("show", 7)])
        self.turns(1)
        self.assertEqual((self.court.held(), self.court.purse("anna")), ([], 920))

    def test_of_one_that_is_held_though_its_states_lack_it(self):
        self.keeper.bill(7)
        self.hold(0, (0, 9, 80, 100, ((3, "left", 20, S, 9),)))
        self.assertEqual(self.keeper.newest(0)[4], ())
        self.turns(3)
        self.assertEqual(self.behind()[1:], [("show", 7)])

    def test_not_of_a_settled_lane_that_is_not_held(self):
        self.billed(9)
        self.hold(0, (0, 0, 100, 100, ()))
        self.assertEqual(len(self.keeper.newest(0)[4]), 1)
        self.turns(6)
        self.assertEqual(len(self.behind()), 1)

    def test_of_a_lock_that_it_handed_on(self):
        self.offer(0, 50, S, 12, ((1, 40, 10),))
        self.accept(1)
        self.turns(9)
        self.propose(1, ("fold", 1, 7))
        self.assertEqual(self.behind(), [])
        self.turns(2)
        self.assertEqual(self.behind(), [("show", 7)])

    def test_nothing_but_that_behind_a_letter_that_is_refused(self):
        lane = self.lane("anna", "dora")
        self.keeper.pay(((lane, 5, 4),), seal=S + 1)
        self.accept(lane)
        self.pass_on(lane)
        self.keeper.give(1, 5)
        self.accept(1)
        self.billed(6)
        for _ in range(5):
            self.court.turn()
        self.court.tell((1, 0, 100, 100, ()))
        before = [(self.keeper.newest(lane), self.keeper.pending(lane)) for lane in range(3)]
        papers = self.signs.papers("anna")
        with self.assertRaises(NoLetter):
            self.keeper.hear("dora", ("turn", 0))
        self.assertEqual(self.behind()[1:], [("tell", self.keeper.newest(1)), ("show", 7)])
        self.assertEqual([(self.keeper.newest(lane), self.keeper.pending(lane)) for lane in range(3)], before)
        self.assertEqual(self.signs.papers("anna"), papers)
        # What it wants it proposes at the next look.
        self.assertEqual(self.keeper.wake(), [("dora", ("next", lane, 3, ("drop", 1), ()))])


class SurelyTest(LaneTest):
    def test_the_purse_and_the_shares(self):
        self.assertEqual((self.court.purse("anna"), self.keeper.surely()), (800, 1000))
        self.propose(0, ("pay", "left", 30))
        self.assertEqual(self.keeper.surely(), 1030)
        self.keeper.give(1, 20)
        self.assertEqual(self.keeper.surely(), 1010)
        self.accept(1)
        self.assertEqual(self.keeper.surely(), 1010)
        self.keeper.shut(0)
        self.keeper.shut(1)
        for _ in range(self.WAIT):
            self.assertEqual((self.court.purse("anna"), self.keeper.surely()), (800, 1010))
            self.turns(1)
        self.assertEqual((self.court.purse("anna"), self.keeper.surely()), (1010, 1010))

    def test_a_lock_for_its_side(self):
        self.offer(0, 50, S, 20, ((1, 40, 9),))
        self.accept(1)
        self.assertEqual(self.keeper.surely(), 1000)
        self.court.show(7)
        # Claimed; what was handed on may be lost.
        self.assertEqual(self.keeper.surely(), 1010)

    def test_billed_enough_and_too_little(self):
        for amount, due in ((30, 1030), (29, 1000)):
            self.setUp()
            self.keeper.bill(7, amount=30)
            self.offer(0, amount, S, 20)
            self.assertEqual(self.keeper.surely(), due)
        # The drop is pending: one of the two states may count, whatever is shown now.
        self.court.show(7)
        self.assertEqual(self.keeper.surely(), 1000)

    def test_too_little_but_shown(self):
        self.keeper.bill(7, amount=30)
        self.hold(0, (0, 9, 80, 100, ((3, "left", 20, S, 30),)))
        self.assertEqual(self.keeper.surely(), 1000)
        self.court.show(7)
        self.assertEqual(self.keeper.surely(), 1020)

    def test_a_dead_lock_for_its_side(self):
        self.keeper.bill(7)
        self.offer(0, 30, S, 4)
        self.assertEqual(self.keeper.surely(), 1030)
        for _ in range(4):
            self.court.turn()
        self.assertEqual(self.keeper.surely(), 1030)
        # Nobody looked: it is too late.
        self.court.turn()
        self.assertEqual(self.keeper.surely(), 1000)

    def test_of_two_states_the_lesser_one(self):
        self.keeper.bill(7)
        self.offer(0, 30, S, 4)
        self.assertEqual(self.keeper.pending(0)[2:], (70, 130, ()))
        for _ in range(5):
            self.court.turn()
        # The pending state has the amount, the newest one only a dead lock.
        self.assertEqual(self.keeper.surely(), 1000)
        self.keeper.give(1, 10)
        self.assertEqual(self.keeper.surely(), 990)

    def test_a_lock_that_it_pays_by(self):
        self.keeper.pay(((1, 30, 4),), seal=S)
        self.assertEqual(self.keeper.surely(), 970)
        self.accept(1)
        self.assertEqual(self.keeper.surely(), 970)
        for _ in range(4):
            self.court.turn()
        self.assertEqual(self.keeper.surely(), 970)
        self.court.turn()
        self.assertEqual(self.keeper.surely(), 1000)
        self.court.show(7)
        self.assertEqual(self.keeper.surely(), 1000)

    def test_one_that_was_shown_in_time(self):
        self.keeper.pay(((1, 30, 4),), seal=S)
        self.accept(1)
        for _ in range(4):
            self.court.turn()
        self.court.show(7)
        self.turns(3)
        self.assertEqual(self.keeper.surely(), 970)

    def test_a_lock_that_was_handed_on(self):
        self.offer(0, 50, S, 30, ((1, 40, 9),))
        self.assertEqual(self.keeper.surely(), 1000)
        self.accept(1)
        self.assertEqual(self.keeper.surely(), 1000)
        self.propose(1, ("fold", 1, 7))
        self.assertEqual(self.keeper.surely(), 1010)

    def test_one_that_was_handed_on_and_shown(self):
        self.offer(0, 50, S, 30, ((1, 40, 9),))
        self.accept(1)
        self.court.show(7)
        self.assertEqual(self.keeper.surely(), 1010)
        for turn in range(8):
            self.court.turn()
        self.assertEqual(self.keeper.surely(), 1010)

    def test_one_that_was_handed_on_and_shown_too_late(self):
        self.offer(0, 50, S, 30, ((1, 40, 9),))
        self.accept(1)
        for _ in range(10):
            self.court.turn()
        self.assertEqual(self.keeper.surely(), 1000)
        self.court.show(7)
        # Dead for carl, and claimed of bert.
        self.assertEqual(self.keeper.surely(), 1050)

    def test_an_own_pay_under_a_seal_that_is_handed_on_as_well(self):
        self.offer(0, 50, S, 30, ((1, 40, 9),))
        self.accept(1)
        self.propose(1, PASS)
        self.keeper.pay(((1, 5, 9),), seal=S)
        self.assertEqual(self.keeper.surely(), 995)

    def test_locks_that_the_court_holds(self):
        self.keeper.pay(((1, 30, 12),), seal=SEALS[8])
        self.accept(1)
        self.pass_on(1)
        self.offer(0, 50, S, 30, ((1, 40, 12),))
        self.accept(1)
        self.assertEqual(self.keeper.surely(), 970)
        self.keeper.shut(0)
        self.keeper.shut(1)
        self.turns(self.WAIT)
        self.assertEqual([lane for lane, _ in self.court.held()], [0, 1, 1])
        self.assertEqual((self.court.purse("anna"), self.keeper.surely()), (800 + 100 + 30, 970))
        self.court.show(7)
        self.assertEqual(self.keeper.surely(), 980)
        self.turns(1)
        self.assertEqual((self.court.purse("anna"), len(self.court.held())), (980, 1))
        self.turns(12 - self.court.now())
        self.assertEqual(self.keeper.surely(), 980)
        self.turns(1)
        self.assertEqual((self.court.purse("anna"), self.keeper.surely(), self.court.held()), (1010, 1010, []))

    def test_held_ones_that_it_does_not_claim(self):
        self.hold(0, (0, 9, 80, 100, ((3, "left", 20, S, 9),)))
        self.assertEqual(self.keeper.surely(), 1000)
        self.keeper.pay(((1, 1, 9),), seal=1)
        self.assertEqual(self.keeper.surely(), 999)
        self.court.show(7)
        self.assertEqual(self.keeper.surely(), 1019)

    def test_locks_of_lanes_of_others_do_not_count(self):
        self.sign_all(("open", 2, "carl", "bert", 50, 50))
        self.court.lane("carl", "bert", left_coins=50, right_coins=50)
        self.court.show(7)
        self.court.tell(self.sign_all((2, 1, 20, 50, ((1, "left", 30, S, 30),))))
        self.turns(self.WAIT - 1)
        self.assertEqual(self.keeper.surely(), 1000)
        self.court.turn()
        self.assertEqual(self.keeper.surely(), 1000)


if __name__ == "__main__":
    unittest.main()
