"""Point 4: no coin is made or lost, and payments come through or go back whole, over many runs of towns and desks."""

import random
import unittest

from coinlanes.desk import Desk
from coinlanes.errors import CoinError, NoCoins, NoWay, Old, Settled
from coinlanes.seals import seal_of
from coinlanes.texts import show_state
from coinlanes.towns import Town

HANDS = ["anna", "bert", "carl", "dora", "emil", "fritz", "gus"]


class Run:
    """A town in which hands pay, give and shut lanes, in any order of letters."""

    def __init__(self, seed, *, far=True):
        self.chance = random.Random(seed)
        chance = self.chance
        self.gap, self.fee = chance.randint(1, 3), (chance.randint(0, 3), chance.choice([0, 10, 100]))
        self.bounds = (40, 60) if far else (1, 8)
        self.town = Town(wait=self.gap + chance.randint(1, 4), gap=self.gap, fee=self.fee)
        self.hands = HANDS[:chance.randint(2, 7)]
        for hand in self.hands:
            self.town.come(hand, coins=chance.choice([300, 1000]))
        self.all_coins = sum(self.town.purse(hand) for hand in self.hands)
        self.lanes, self.pays, self.secret = [], [], 0
        for _ in range(chance.randint(1, 9)):
            left, right = chance.sample(self.hands, 2)
            coins = chance.choice([0, 20, 50]), chance.choice([1, 20, 50])
            if coins[0] <= self.town.purse(left) and coins[1] <= self.town.purse(right):
                self.town.lane(left, right, left_coins=coins[0], right_coins=coins[1])
                self.lanes.append((left, right))

    def pay(self, more=(0, 0, 1, -1)):
        chance = self.chance
        self.secret += 1
        payer, payee = chance.sample(self.hands, 2)
        billed = chance.randint(1, 20)
        amount = max(1, billed + chance.choice(more))
        seal = self.town.bill(payee, self.secret, amount=billed)
        try:
            way = self.town.pay(payer, payee, seal=seal, amount=amount, bound=chance.randint(*self.bounds))
        except (NoWay, NoCoins):
            return None
        self.pays.append((payer, payee, seal, billed, way))
        return way[0][2]

    def give(self):
        hand = self.chance.choice(self.hands)
        if not self.town.lanes(hand):
            return
        try:
            self.town.give(hand, self.chance.choice(self.town.lanes(hand)), self.chance.randint(1, 15))
        except (NoCoins, Settled):
            pass

    def shut(self):
        lane = self.chance.randint(0, len(self.lanes) - 1)
        try:
            self.town.shut(self.chance.choice(self.lanes[lane]), lane)
        except (Old, Settled):
            pass

    def step(self):
        lying = self.town.lying()
        if lying:
            self.town.step(*self.chance.choice(lying)[:2])
        return lying != []

    def sures(self):
        return {hand: self.town.surely(hand) for hand in self.hands}

    def through(self, pay):
        payer, _, seal, _, way = pay
        return (seal, way[0][2]) in [(row[0], row[2]) for row in self.town.receipts(payer)]


class TownRunTest(unittest.TestCase):
    def check_ends(self, run, open_lanes=True):
        town = run.town
        self.assertEqual((town.lying(), town.inside()), ([], 0))
        for lane in range(len(run.lanes)):
            left, right = town.state(lane)
            self.assertEqual(left, right)
            self.assertEqual(left[4], ())
        self.assertEqual(sum(run.sures().values()), run.all_coins)

    def test_payments_come_through_or_go_back_whole(self):
        """Any order of letters, many payments and gifts at once, each last far ahead (4 d)."""
        seen = {True: 0, False: 0}
        for seed in range(150):
            run = Run(seed)
            for _ in range(40):
                deed = run.chance.random()
                if deed < 0.25:
                    run.pay()
                elif deed < 0.35:
                    run.give()
                elif deed < 0.38 and run.town.now() < 20:
                    run.town.turn()
                else:
                    run.step()
            while run.step():
                pass
            self.check_ends(run)
            self.assertEqual(run.town.told(), 0)
            for pay in run.pays:
                through = run.through(pay)
                seen[through] += 1
                if through:
                    self.assertGreaterEqual(pay[4][-1][2], pay[3])
        self.assertGreater(min(seen.values()), 100)

    def test_one_at_a_time_comes_through(self):
        """Begun where none lies, no less than billed: each coin of it goes where it is due."""
        many = 0
        for seed in range(120):
            run = Run(2000 + seed)
            for _ in range(6):
                before, first = run.sures(), run.pay(more=(0, 0, 5))
                if first is None:
                    continue
                if run.chance.random() < 0.5:
                    run.town.rest()
                while run.step():
                    pass
                payer, payee, seal, _, way = run.pays[-1]
                due = dict(before)
                due[payer] -= first
                due[payee] += way[-1][2]
                for place, (_, hand, amount) in enumerate(way[1:]):
                    due[hand] += way[place][2] - amount
                    self.assertEqual(way[place][2] - amount, run.fee[0] + run.fee[1] * amount // 1000)
                self.assertEqual(run.sures(), due)
                self.assertTrue(run.through(run.pays[-1]))
                self.check_ends(run)
                many += 1
        self.assertGreater(many, 250)

    def test_lanes_shut_in_the_middle_of_payments(self):
        """Short bounds, lanes shut, turns at any time: nobody but payers and givers has less than before (4 a, b)."""
        told = through = back = 0
        for seed in range(200):
            run = Run(5000 + seed, far=False)
            paid = {hand: 0 for hand in run.hands}
            for _ in range(60):
                before, deed, town = run.sures(), run.chance.random(), run.town
                marks = len(town.trail())
                if deed < 0.2:
                    first = run.pay()
                    if first is not None:
                        paid[run.pays[-1][0]] += first
                elif deed < 0.25 and run.lanes:
                    run.shut()
                elif deed < 0.45:
                    town.turn()
                else:
                    run.step()
                self.assertEqual(town.inside(), 0)
                self.assertTrue(all(mark[0] == ("begun", "ended")[at % 2]
                                    for at, mark in enumerate(town.trail()[marks:])))
                out = {hand: before[hand] - sure for hand, sure in run.sures().items()}
                for hand in run.hands:
                    self.assertLessEqual(out[hand], paid[hand], (seed, hand))
                    paid[hand] -= max(0, out[hand])
            first_sures = {hand: town.surely(hand) for hand in run.hands}
            for lane in range(len(run.lanes)):
                for hand in run.lanes[lane]:
                    try:
                        town.shut(hand, lane)
                    except (Old, Settled):
                        pass
            for _ in range(50):
                town.turn()
                if run.chance.random() < 0.3:
                    run.step()
            town.rest()
            for hand in run.hands:
                self.assertEqual(town.purse(hand), town.surely(hand))
                self.assertGreaterEqual(town.purse(hand), first_sures[hand])
            self.assertEqual(sum(town.purse(hand) for hand in run.hands), run.all_coins)
            told += town.told()
            through += sum(run.through(pay) for pay in run.pays)
            back += sum(not run.through(pay) for pay in run.pays)
        self.assertGreater(min(told, through, back), 200)

    def test_what_a_payer_lost_has_its_secret(self):
        """In towns of lone payers: all that is missing in the end was paid by seals whose secrets are known (4 c)."""
        known = 0
        for seed in range(100):
            run = Run(9000 + seed, far=False)
            firsts = run.sures()
            for _ in range(50):
                deed = run.chance.random()
                if deed < 0.2:
                    run.pay()
                elif deed < 0.24 and run.lanes:
                    run.shut()
                elif deed < 0.4:
                    run.town.turn()
                else:
                    run.step()
            for lane, hands in enumerate(run.lanes):
                try:
                    run.town.shut(hands[0], lane)
                except (Old, Settled):
                    pass
            for _ in range(50):
                run.town.turn()
            for hand in run.hands:
                receipts = run.town.receipts(hand)
                for seal, secret, _ in receipts:
                    self.assertEqual(seal_of(secret), seal)
                known += len(receipts)
                self.assertGreaterEqual(run.town.purse(hand), firsts[hand] - sum(row[2] for row in receipts))
        self.assertGreater(known, 60)


class DeskRunTest(unittest.TestCase):
    """A desk says what its town tells: the same rows to a desk, and the same deeds to a town."""

    def deed(self, chance, town, lanes, bills):
        hand, other = [chance.choice(HANDS[:4]) for _ in range(2)]
        word = chance.choice(["lane", "bill", "pay", "pay", "pay", "give", "give", "step", "step", "step", "step", "turn",
                              "shut", "rest"])
        number = chance.randint(0, 5)
        if word == "step":
            if town.lying() and chance.random() < 0.9:
                hand, other = chance.choice(town.lying())[:2]
            return "step", (hand, other), {}
        if word == "pay":
            payee, seal = chance.choice(bills or [(other, 0)])
            return "pay", (hand, payee), {"seal": seal, "amount": 3 * number, "bound": 9 * chance.randint(0, 2)}
        if word in ("give", "shut"):
            if town.lanes(hand) and chance.random() < 0.8:
                lane = chance.choice(town.lanes(hand))
            else:
                lane = lanes
            return (word, (hand, lane, 3 * number), {}) if word == "give" else (word, (hand, lane), {})
        if word == "rest" or lanes > 5:
            return chance.choice(["rest", "turn"]), (), {}
        if word == "bill":
            return word, (hand, chance.randint(0, 30)), {"amount": number}
        return "lane", (hand, other), {"left_coins": 40, "right_coins": 10 * number}

    def answer(self, town, word, told, named):
        answer = getattr(town, word)(*told, **named)
        if word == "pay":
            return " ".join(f"{lane}:{amount}" for lane, _, amount in answer)
        return "ok" if answer is None else str(answer)

    def compare(self, desk, town, lanes):
        self.assertEqual(desk.say("hands").split(" "), town.hands())
        self.assertEqual(desk.say("now"), str(town.now()))
        self.assertEqual(desk.say("lie"), str(sum(len(letters) for _, _, letters in town.lying())))
        for hand in town.hands():
            receipts = " ".join(f"{seal}:{secret}:{amount}" for seal, secret, amount in town.receipts(hand))
            self.assertEqual(desk.say("receipts " + hand), receipts or "none")
            self.assertEqual(desk.say("purse " + hand), str(town.purse(hand)))
            self.assertEqual(desk.say("sure " + hand), str(town.surely(hand)))
        for lane in range(lanes):
            left, right = town.state(lane)
            self.assertEqual(desk.say(f"state {lane}"), show_state(left) + " | " + show_state(right))

    def test_two_desks_and_two_towns_by_turns(self):
        seen = {}
        for seed in range(25):
            chance = random.Random(seed)
            pairs = []
            for _ in range(2):
                desk, town = Desk(), Town(wait=7, gap=2, fee=(2, 50))
                desk.say("town 7 2 2 50")
                for hand in HANDS[:4]:
                    desk.say(f"come {hand} 200")
                    town.come(hand, coins=200)
                pairs.append([desk, town, 0, []])
            for _ in range(120):
                pair = chance.choice(pairs)
                desk, town, lanes, bills = pair
                word, told, named = self.deed(chance, town, lanes, bills)
                row = " ".join([word] + [str(part) for part in told + tuple(named.values())])
                try:
                    due = self.answer(town, word, told, named)
                except CoinError as refusal:
                    with self.assertRaises(CoinError) as caught:
                        desk.say(row)
                    self.assertIs(type(caught.exception), type(refusal))
                    word = type(refusal).__name__
                else:
                    self.assertEqual(desk.say(row), due)
                    pair[2] += word == "lane"
                    pair[3] += [(told[0], int(due))] if word == "bill" else []
                seen[word] = seen.get(word, 0) + 1
            for desk, town, lanes, _ in pairs:
                self.compare(desk, town, lanes)
        for word in ("lane", "bill", "pay", "give", "step", "rest", "turn", "shut", "NoHand", "NoBill", "NoLetter",
                     "NoCoins", "NoLane", "Twice", "NoNumber", "Settled"):
            self.assertGreater(seen.get(word, 0), 3, (word, seen))


if __name__ == "__main__":
    unittest.main()
