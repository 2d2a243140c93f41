"""Points 20 to 22: nets, fees, the cheapest ways, and papers of them."""

import copy
import inspect
import random
import unittest

from coinlanes import ways
from coinlanes.errors import CoinError, NoCoins, NoFees, NoName, NoNet, NoPaper, NoWay
from coinlanes.ways import are_fees, cheapest, fee_for, is_net, shows, way_paper
from things import ANY, FORTY, GREATEST, NO_NAMES, NO_POSITIVE, NO_WHOLE, can_be_key, with_part

ROW = (4, "anna", "bert", 20, 30)
NO_FEE = NO_WHOLE + ["fee", (1,), (1, 2, 3), [1, 10], (1, 1001), (0, GREATEST), ((1, 10),), {"flat": 1}] + [
    with_part((1, 10), place, part) for place in (0, 1) for part in NO_WHOLE]


def no_nets():
    found = [thing for thing in ANY if thing != []]
    found += [ROW, (ROW,), [list(ROW)], [ROW, None], [ROW[:4]], [ROW + (1,)], {4: ROW}, [[ROW]], [(ROW,)], [()]]
    for place in (0, 3, 4):
        found += [[with_part(ROW, place, part)] for part in NO_WHOLE]
    for place in (1, 2):
        found += [[with_part(ROW, place, part)] for part in NO_NAMES]
    found += [[with_part(ROW, 1, "bert")], [with_part(ROW, 2, "anna")]]
    found += [[ROW, ROW], [ROW, (4, "carl", "dora", 1, 1)], [ROW, (5, "carl", "carl", 1, 1)]]
    found.append([(lane, "anna", "bert", 1, 1) for lane in range(61)])
    found.append([(lane, "anna", "bert", 1, 1) for lane in range(59)] + [(0, "anna", "bert", 1, 1)])
    return found


def no_fees():
    found = [thing for thing in ANY if thing != {} and thing is not None]
    found += [[("anna", (1, 10))], (("anna", (1, 10)),), [{"anna": (1, 10)}]]
    found += [{"anna": fee} for fee in NO_FEE] + [{"bert": (0, 0), "anna": fee} for fee in NO_FEE]
    return found + [{name: (1, 10)} for name in NO_NAMES if can_be_key(name)]


def every_way(net, payer, payee, amount, fees):
    """All ways from a payer to a payee by the words of 21, built from the payee's end."""
    found = []

    def go(hand, due, way):
        if hand == payer:
            found.append(way)
            return
        for lane, left, right, left_room, right_room in net:
            for taker, giver, room in ((right, left, left_room), (left, right, right_room)):
                if taker == hand and giver != payee and giver not in [row[1] for row in way] and room >= due:
                    flat, share = fees.get(giver, (0, 0)) if giver != payer else (0, 0)
                    go(giver, due + flat + due * share // 1000, [(lane, giver, due)] + way)

    go(payee, amount, [])
    return found


def order(way):
    return way[0][2], len(way), [row[0] for row in way][::-1]


def plain_paper(net, payee, amount, fees):
    """The paper by the words of 22: numbers that fall until none falls any more."""
    paper, falling = {payee: amount}, True
    while falling:
        falling = False
        for lane, left, right, left_room, right_room in net:
            for taker, giver, room in ((right, left, left_room), (left, right, right_room)):
                if taker in paper and giver != payee and room >= paper[taker]:
                    flat, share = fees.get(giver, (0, 0))
                    due = paper[taker] + flat + paper[taker] * share // 1000
                    if due < paper.get(giver, due + 1):
                        paper[giver], falling = due, True
    return paper


def any_net(chance, hands, most):
    net = []
    for lane in chance.sample(range(20), chance.randint(1, most)):
        left, right = chance.sample(hands, 2)
        net.append((lane, left, right, chance.choice([0, 9, 10, 11, 12, 14, 40]), chance.choice([0, 10, 11, 13, 40])))
    return net


def any_fees(chance, hands):
    return {hand: (chance.randint(0, 2), chance.choice([0, 10, 100, 300, 1000])) for hand in hands
            if chance.random() < 0.7}


class WayTest(unittest.TestCase):
    def assert_refused(self, kind, asked, *told, **named):
        with self.assertRaises(CoinError) as caught:
            asked(*told, **named)
        self.assertIs(type(caught.exception), kind)


class NetTest(WayTest):
    def test_nets(self):
        sixty = [(lane, "anna", "bert", lane, 2 * lane) for lane in range(60)]
        good = [[], [ROW], sixty, [ROW, (5, "anna", "bert", 20, 30)], [ROW, (0, "bert", "anna", 0, 0)],
                [(FORTY, "a", "abcdefgh", FORTY, FORTY)], [ROW, (3, "carl", "dora", 0, GREATEST)]]
        for net in good:
            self.assertIs(is_net(net), True)

    def test_what_is_none(self):
        for thing in no_nets():
            self.assertIs(is_net(thing), False, thing)

    def test_fees(self):
        good = [{}, {"anna": (0, 0)}, {"anna": (1, 1000)}, {"a": (GREATEST, 0), "abcdefgh": (FORTY, 1)}]
        for fees in good:
            self.assertIs(are_fees(fees), True)

    def test_what_are_none(self):
        for thing in no_fees() + [None]:
            self.assertIs(are_fees(thing), False, thing)


class FeeTest(WayTest):
    def test_flat_share_and_what_is_cut_down(self):
        cases = [
            ((3, 0), 100, 3), ((0, 10), 100, 1), ((0, 10), 99, 0), ((0, 10), 199, 1), ((0, 10), 200, 2),
            ((1, 10), 0, 1), ((0, 0), 50, 0), ((0, 1000), 7, 7), ((5, 1000), 7, 12), ((0, 1), 999, 0),
            ((0, 1), 1000, 1), ((0, 999), 999, 998), ((2, 333), 10, 5), ((0, 0), 0, 0), ((7, 1000), 0, 7),
            ((GREATEST, 1), GREATEST, GREATEST + 999999999999), ((1, 1), FORTY, 1 + FORTY // 1000),
        ]
        for fee, amount, due in cases:
            self.assertEqual(fee_for(fee, amount), due)

    def test_refused(self):
        for fee in NO_FEE:
            self.assert_refused(NoFees, fee_for, fee, 5)
        for amount in NO_WHOLE:
            self.assert_refused(NoCoins, fee_for, (1, 10), amount)
        for fee in NO_FEE:
            for amount in (None, True, -1):
                self.assert_refused(NoFees, fee_for, fee, amount)


class CheapestTest(WayTest):
    def test_one_lane_either_way_about(self):
        net = [(7, "anna", "bert", 10, 25)]
        self.assertEqual(cheapest(net, "anna", "bert", 10), [(7, "anna", 10)])
        self.assertEqual(cheapest(net, "bert", "anna", 25), [(7, "bert", 25)])
        self.assert_refused(NoWay, cheapest, net, "anna", "bert", 11)
        self.assert_refused(NoWay, cheapest, net, "bert", "anna", 26)

    def test_no_lane_at_all(self):
        self.assert_refused(NoWay, cheapest, [], "anna", "bert", 1)
        for net in ([ROW], [(0, "carl", "bert", 9, 9)], [(0, "anna", "carl", 9, 9), (1, "dora", "bert", 9, 9)]):
            self.assert_refused(NoWay, cheapest, net, "anna", "dora" if net == [ROW] else "bert", 1)

    def test_rooms_of_just_the_amount_and_one_less(self):
        fees = {"bert": (1, 100)}
        good = [(0, "anna", "bert", 23, 0), (1, "carl", "bert", 0, 20)]
        self.assertEqual(cheapest(good, "anna", "carl", 20, fees=fees), [(0, "anna", 23), (1, "bert", 20)])
        for place, room in ((0, with_part(good[0], 3, 22)), (1, with_part(good[1], 4, 19))):
            self.assert_refused(NoWay, cheapest, [row for row in good if row[0] != place] + [room], "anna", "carl", 20,
                                fees=fees)

    def test_fees_of_those_in_the_middle_alone(self):
        net = [(0, "anna", "bert", 99, 99), (1, "bert", "carl", 99, 99), (2, "carl", "dora", 99, 99)]
        fees = {"anna": (50, 0), "bert": (3, 100), "carl": (1, 50), "dora": (40, 0), "emil": (9, 9)}
        due = [(0, "anna", 27), (1, "bert", 22), (2, "carl", 20)]
        self.assertEqual(cheapest(net, "anna", "dora", 20, fees=fees), due)
        for fees in (None, {}, {"anna": (50, 7), "dora": (40, 7)}):
            due = [(0, "anna", 20), (1, "bert", 20), (2, "carl", 20)]
            self.assertEqual(cheapest(net, "anna", "dora", 20, fees=fees), due)
        self.assertEqual(cheapest(net, "anna", "dora", 20), due)
        # The fee is taken of the amount that a hand hands on, not of that which comes to it.
        self.assertEqual(cheapest(net[:2], "anna", "carl", 10, fees={"bert": (0, 500)})[0], (0, "anna", 15))

    def test_the_least_first_amount_ahead_of_fewer_lanes(self):
        net = [(0, "anna", "bert", 99, 0), (1, "bert", "emil", 99, 0), (2, "anna", "carl", 99, 0),
               (3, "carl", "dora", 99, 0), (4, "dora", "emil", 99, 0)]
        fees = {"bert": (3, 0), "carl": (1, 0), "dora": (1, 0)}
        way = cheapest(net, "anna", "emil", 9, fees=fees)
        self.assertEqual(way, [(2, "anna", 11), (3, "carl", 10), (4, "dora", 9)])
        # Of as little: the fewest lanes.
        way = cheapest(net, "anna", "emil", 9, fees={**fees, "bert": (2, 0)})
        self.assertEqual(way, [(0, "anna", 11), (1, "bert", 9)])

    def test_the_least_list_of_lanes_read_from_the_payees_end(self):
        net = [(0, "anna", "bert", 99, 0), (9, "bert", "dora", 99, 0), (7, "anna", "carl", 99, 0),
               (8, "carl", "dora", 99, 0)]
        self.assertEqual(cheapest(net, "anna", "dora", 5), [(7, "anna", 5), (8, "carl", 5)])
        # Fewer lanes go ahead of lesser numbers.
        net.append((30, "anna", "dora", 5, 0))
        self.assertEqual(cheapest(net, "anna", "dora", 5), [(30, "anna", 5)])
        self.assertEqual(cheapest(net, "anna", "dora", 6), [(7, "anna", 6), (8, "carl", 6)])

    def test_several_lanes_between_the_same_hands(self):
        net = [(3, "anna", "bert", 10, 0), (1, "bert", "anna", 0, 10), (2, "anna", "bert", 50, 0)]
        self.assertEqual(cheapest(net, "anna", "bert", 10), [(1, "anna", 10)])
        self.assertEqual(cheapest(net, "anna", "bert", 11), [(2, "anna", 11)])
        for seed in range(10):
            random.Random(seed).shuffle(net)
            self.assertEqual(cheapest(net, "anna", "bert", 10), [(1, "anna", 10)])

    def test_a_dearer_hop_because_of_room(self):
        net = [(0, "anna", "bert", 99, 0), (1, "bert", "dora", 8, 0), (2, "bert", "carl", 99, 0),
               (3, "carl", "dora", 99, 0)]
        fees = {"bert": (1, 0), "carl": (4, 0)}
        self.assertEqual(cheapest(net, "anna", "dora", 8, fees=fees), [(0, "anna", 9), (1, "bert", 8)])
        due = [(0, "anna", 14), (2, "bert", 13), (3, "carl", 9)]
        self.assertEqual(cheapest(net, "anna", "dora", 9, fees=fees), due)

    def test_no_hand_twice(self):
        # Only by going on past the payer itself, or through the payee, there would be a way.
        net = [(0, "anna", "bert", 99, 99), (1, "bert", "carl", 0, 99), (2, "carl", "anna", 99, 0)]
        self.assert_refused(NoWay, cheapest, net, "anna", "carl", 5)
        net = [(0, "anna", "bert", 5, 99), (1, "anna", "carl", 99, 0), (2, "bert", "carl", 99, 99)]
        self.assertEqual(cheapest(net, "anna", "bert", 9), [(1, "anna", 9), (2, "carl", 9)])

    def test_a_hand_that_is_not_in_the_fees_takes_nothing(self):
        net = [(0, "anna", "bert", GREATEST, 0), (1, "bert", "carl", GREATEST, 0)]
        for fees in (None, {}, {"anna": (1, 1), "carl": (1, 1), "dora": (1, 1)}):
            for amount in (1000, GREATEST):
                self.assertEqual(cheapest(net, "anna", "carl", amount, fees=fees)[0][2], amount)
                self.assertEqual(way_paper(net, "carl", amount, fees=fees)["bert"], amount)

    def test_great_amounts(self):
        net = [(0, "anna", "bert", FORTY, 0), (1, "bert", "carl", FORTY, 0)]
        way = cheapest(net, "anna", "carl", GREATEST, fees={"bert": (GREATEST, 1000)})
        self.assertEqual(way, [(0, "anna", 3 * GREATEST), (1, "bert", GREATEST)])

    def test_held_against_trying_every_way(self):
        chance, many = random.Random(3), {"none": 0, "one": 0, "more": 0}
        for _ in range(1500):
            hands = ["anna", "bert", "carl", "dora", "emil"][:chance.randint(2, 5)]
            net, fees = any_net(chance, hands, 9), any_fees(chance, hands)
            payer, payee = chance.sample(hands, 2)
            tried = every_way(net, payer, payee, 10, fees)
            many["more" if len(tried) > 1 else "one" if tried else "none"] += 1
            if tried:
                self.assertEqual(cheapest(net, payer, payee, 10, fees=fees), min(tried, key=order))
            else:
                self.assert_refused(NoWay, cheapest, net, payer, payee, 10, fees=fees)
        self.assertGreater(min(many.values()), 150)

    def test_refusals_in_their_order(self):
        good = [[ROW], "anna", "bert", 5]
        for thing in no_nets():
            self.assert_refused(NoNet, cheapest, thing, "anna", "bert", 5)
        for name in NO_NAMES:
            self.assert_refused(NoName, cheapest, [ROW], name, "bert", 5)
            self.assert_refused(NoName, cheapest, [ROW], "anna", name, 5)
        self.assert_refused(NoName, cheapest, [ROW], "anna", "anna", 5)
        for amount in NO_POSITIVE:
            self.assert_refused(NoCoins, cheapest, [ROW], "anna", "bert", amount)
        for fees in no_fees():
            self.assert_refused(NoFees, cheapest, *good, fees=fees)
        wrong = [(None, NoNet), ("Anna", NoName), (0, NoCoins)]
        for first in range(3):
            for second in range(first + 1, 3):
                told = list(good)
                for place in (first, second):
                    told[(0, 1, 3)[place]] = wrong[place][0]
                self.assert_refused(wrong[first][1], cheapest, *told)
                self.assert_refused(wrong[first][1], cheapest, *told, fees=7)
        self.assert_refused(NoCoins, cheapest, [ROW], "anna", "bert", 0, fees=7)
        self.assert_refused(NoFees, cheapest, [ROW], "anna", "dora", 5, fees=7)

    def test_what_is_handed_in_stays_and_what_is_told_is_new(self):
        net, fees = [(0, "anna", "bert", 99, 0), (1, "bert", "carl", 99, 0)], {"bert": (1, 10), "anna": (5, 5)}
        before = copy.deepcopy((net, fees))
        way = cheapest(net, "anna", "carl", 9, fees=fees)
        paper = way_paper(net, "carl", 9, fees=fees)
        self.assertIs(type(way), list)
        self.assertTrue(all(type(row) is tuple for row in way))
        way.clear()
        paper.clear()
        self.assertEqual(cheapest(net, "anna", "carl", 9, fees=fees), [(0, "anna", 10), (1, "bert", 9)])
        self.assertEqual(way_paper(net, "carl", 9, fees=fees), {"carl": 9, "bert": 10, "anna": 15})
        shows(net, "carl", 9, {"carl": 9}, fees=fees)
        self.assertEqual((net, fees), before)


class GreatTest(WayTest):
    """Nets of sixty lanes in which the number of ways is very great."""

    def ladder(self):
        """Thirty pairs of like lanes, one behind the other: 2 ** 30 ways."""
        hands = [chr(97 + place // 26) + chr(97 + place % 26) for place in range(31)]
        net = [(2 * place + twin, hands[place], hands[place + 1], GREATEST, GREATEST)
               for place in range(30) for twin in (0, 1)]
        return hands, net

    def test_a_ladder(self):
        hands, net = self.ladder()
        due = [(2 * place, hands[place], 1 + 29 - place) for place in range(30)]
        fees = {hand: (1, 0) for hand in hands}
        self.assertEqual(cheapest(net, hands[0], hands[-1], 1, fees=fees), due)
        self.assertEqual(cheapest(net[::-1], hands[0], hands[-1], 1, fees=fees), due)
        narrow = [with_part(row, 3, 0) if row[0] == 59 or row[0] == 0 else row for row in net]
        way = cheapest(narrow, hands[0], hands[-1], 1, fees=fees)
        self.assertEqual([row[0] for row in way], [1] + list(range(2, 60, 2)))
        self.assertEqual(way_paper(net, hands[-1], 1, fees=fees), {hand: 31 - place for place, hand in enumerate(hands)})

    def test_doubling_amounts(self):
        hands, net = self.ladder()
        net = [(lane, left, right, FORTY, FORTY) for lane, left, right, _, _ in net]
        way = cheapest(net, hands[0], hands[-1], 1, fees={hand: (0, 1000) for hand in hands})
        self.assertEqual([row[2] for row in way], [2 ** place for place in range(29, -1, -1)])

    def test_no_way_at_the_very_end(self):
        hands, net = self.ladder()
        shut = [with_part(row, 3, 0) if row[1] == hands[0] else row for row in net]
        self.assert_refused(NoWay, cheapest, shut, hands[0], hands[-1], 1)
        self.assertNotIn(hands[0], way_paper(shut, hands[-1], 1))

    def test_a_crowd(self):
        chance = random.Random(11)
        hands = [chr(97 + place) * 2 for place in range(12)]
        for _ in range(20):
            pairs = [chance.sample(hands, 2) for _ in range(60)]
            net = [(lane, left, right, chance.randint(5, 60), chance.randint(5, 60))
                   for lane, (left, right) in enumerate(pairs)]
            fees = {hand: (chance.randint(0, 3), chance.randint(0, 200)) for hand in hands}
            paper = way_paper(net, hands[0], 20, fees=fees)
            self.assertEqual(paper, plain_paper(net, hands[0], 20, fees))
            for hand in hands[1:]:
                if hand in paper:
                    way = cheapest(net, hand, hands[0], 20, fees=fees)
                    self.assertEqual((way[0][1], way[-1][2]), (hand, 20))


class PaperTest(WayTest):
    def test_by_hand(self):
        net = [(0, "anna", "bert", 99, 0), (1, "bert", "carl", 12, 99), (2, "carl", "dora", 11, 0),
               (3, "emil", "dora", 9, 0)]
        fees = {"anna": (1, 0), "carl": (1, 100), "bert": (0, 500)}
        paper = way_paper(net, "dora", 10, fees=fees)
        self.assertEqual(paper, {"dora": 10, "carl": 12, "bert": 18, "anna": 19})
        self.assertEqual(way_paper(net, "dora", 9), {"dora": 9, "carl": 9, "bert": 9, "anna": 9, "emil": 9})
        self.assertEqual(way_paper(net, "dora", 12), {"dora": 12})
        self.assertEqual(way_paper(net, "anna", 10), {"anna": 10})
        self.assertEqual(way_paper(net, "bert", 30), {"bert": 30, "anna": 30, "carl": 30})

    def test_held_against_the_words_of_22(self):
        chance = random.Random(4)
        for _ in range(1500):
            hands = ["anna", "bert", "carl", "dora", "emil"][:chance.randint(2, 5)]
            net, fees = any_net(chance, hands, 9), any_fees(chance, hands)
            payee = net[0][1]
            due = plain_paper(net, payee, 10, fees)
            paper = way_paper(net, payee, 10, fees=fees)
            self.assertEqual(paper, due)
            self.assertIs(shows(net, payee, 10, paper, fees=fees), True)

    def test_the_first_amount_of_the_cheapest_way(self):
        """Of ways that do not go over the payer itself, the paper of the net without it tells."""
        chance = random.Random(6)
        seen = 0
        for _ in range(600):
            hands = ["anna", "bert", "carl", "dora", "emil"]
            net, fees = any_net(chance, hands, 12), any_fees(chance, hands)
            payer, payee = chance.sample(hands, 2)
            others = [row for row in net if payer not in row[1:3]]
            if not any(payee in row[1:3] for row in others):
                continue
            paper = way_paper(others, payee, 10, fees=fees)
            rooms = [(left_room, right) for _, left, right, left_room, _ in net if left == payer]
            rooms += [(right_room, left) for _, left, right, _, right_room in net if right == payer]
            firsts = [paper[hand] for room, hand in rooms if hand in paper and room >= paper[hand]]
            if firsts:
                seen += 1
                self.assertEqual(cheapest(net, payer, payee, 10, fees=fees)[0][2], min(firsts))
            else:
                self.assert_refused(NoWay, cheapest, net, payer, payee, 10, fees=fees)
        self.assertGreater(seen, 100)

    def test_papers_that_are_not_this_one(self):
        net = [(0, "anna", "bert", 99, 99), (1, "bert", "carl", 12, 99), (2, "dora", "carl", 0, 0)]
        fees = {"bert": (1, 0)}
        paper = {"carl": 10, "bert": 11, "anna": 11}
        self.assertIs(shows(net, "carl", 10, paper, fees=fees), True)
        self.assertIs(shows(net, "carl", 10, {hand: paper[hand] for hand in sorted(paper)}, fees=fees), True)
        for hand in paper:
            for number in (0, -1, paper[hand] + 1, paper[hand] - 1, -paper[hand], FORTY, -GREATEST):
                self.assertIs(shows(net, "carl", 10, {**paper, hand: number}, fees=fees), False)
            less = {other: paper[other] for other in paper if other != hand}
            self.assertIs(shows(net, "carl", 10, less, fees=fees), False)
        for hand in ("dora", "emil"):
            self.assertIs(shows(net, "carl", 10, {**paper, hand: 10}, fees=fees), False)
        self.assertIs(shows(net, "carl", 10, {}, fees=fees), False)
        self.assertIs(shows(net, "carl", 10, paper), False)
        self.assertIs(shows(net, "carl", 9, paper, fees=fees), False)

    def test_what_is_no_such_dict(self):
        paper = {"anna": 5, "bert": 5}
        self.assertIs(shows([ROW], "bert", 5, paper), True)
        bad = [thing for thing in ANY if not isinstance(thing, dict)]
        bad += [[("anna", 5), ("bert", 5)], ["anna", "bert"], {5: "anna"}, {"anna": 5, "Bert": 5}]
        numbers = [thing for thing in NO_WHOLE if type(thing) is not int]
        bad += [{"anna": 5, "bert": number} for number in numbers]
        bad += [{"anna": 5, name: 5} for name in (True, None, 7, "", "abcdefghi", b"bert", ("bert",), "ann a")]
        for thing in bad:
            self.assert_refused(NoPaper, shows, [ROW], "bert", 5, thing)
        one = [(0, "anna", "bert", 9, 9)]
        self.assert_refused(NoPaper, shows, one, "bert", 1, {"anna": True, "bert": 1})

    def test_a_payee_who_stands_in_no_lane(self):
        for payee in ("carl", "dora"):
            self.assert_refused(NoName, way_paper, [ROW], payee, 5)
            self.assert_refused(NoName, shows, [ROW], payee, 5, {payee: 5})
        self.assert_refused(NoName, way_paper, [], "anna", 5)
        self.assertEqual(way_paper([ROW], "anna", 31), {"anna": 31})

    def test_refusals_in_their_order(self):
        for asked, told in ((way_paper, ()), (shows, (7,))):
            for net in no_nets():
                self.assert_refused(NoNet, asked, net, "anna", 5, *told)
            for name in NO_NAMES:
                self.assert_refused(NoName, asked, [ROW], name, 5, *told)
                self.assert_refused(NoName, asked, [ROW], name, 0, *told, fees=7)
                self.assert_refused(NoNet, asked, None, name, 0, *told, fees=7)
            for amount in NO_POSITIVE:
                self.assert_refused(NoCoins, asked, [ROW], "anna", amount, *told)
                self.assert_refused(NoCoins, asked, [ROW], "anna", amount, *told, fees=7)
            for fees in no_fees():
                self.assert_refused(NoFees, asked, [ROW], "anna", 5, *told, fees=fees)


class InterfaceTest(unittest.TestCase):
    def test_names_and_arguments(self):
        due = {
            "is_net": "(thing)", "are_fees": "(thing)", "fee_for": "(fee, amount)",
            "cheapest": "(net, payer, payee, amount, *, fees=None)", "way_paper": "(net, payee, amount, *, fees=None)",
            "shows": "(net, payee, amount, paper, *, fees=None)",
        }
        for word, arguments in due.items():
            asked = getattr(ways, word)
            self.assertEqual((asked.__module__, str(inspect.signature(asked))), ("coinlanes.ways", arguments))


if __name__ == "__main__":
    unittest.main()
