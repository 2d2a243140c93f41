"""Points 9 to 14 and 36: a court against a plain count of what its deeds come to, over many runs."""

import random
import unittest

from coinlanes.courts import Court
from coinlanes.errors import CoinError, NoCoins, NoHand, NoLane, NotSigned, Old, Settled
from coinlanes.seals import seal_of
from coinlanes.signs import Signs
from coinlanes.states import worth

HANDS = ("dora", "anna", "carl", "bert")
FIRST = 60


class Count:
    """What is due by the deeds that were done: kept is only what was done, and at which turn."""

    def __init__(self, wait):
        self.wait, self.now = wait, 0
        self.opened, self.told, self.shown, self.rows = [], [], {}, []

    def end(self, lane):
        return min(turn for turn, state in self.told if state[0] == lane) + self.wait

    def standing(self, lane):
        states = [state for _, state in self.told if state[0] == lane]
        _, _, left_coins, right_coins = self.opened[lane]
        return states[-1] if states else (lane, 0, left_coins, right_coins, ())

    def word(self, lane):
        if not any(state[0] == lane for _, state in self.told):
            return "open"
        return "closing" if self.now < self.end(lane) else "settled"

    def decided(self, lane, lock):
        """The turn at which a lock of a lane that was told is decided, and for which side, by the deeds so far."""
        shown = self.shown.get(lock[3])
        if shown is not None and shown <= lock[4]:
            return max(self.end(lane), shown + 1), "right" if lock[1] == "left" else "left"
        return max(self.end(lane), lock[4] + 1), lock[1]

    def paid(self, now):
        shares, amounts = [], []
        for lane, (left, right, _, _) in enumerate(self.opened):
            if self.word(lane) != "open" and self.end(lane) <= now:
                state = self.standing(lane)
                if self.end(lane) == now:
                    shares += [(left, state[2]), (right, state[3])]
                for lock in state[4]:
                    turn, side = self.decided(lane, lock)
                    if turn == now:
                        amounts.append((left if side == "left" else right, lock[2]))
        return [row for row in shares + amounts if row[1] > 0]

    def held(self):
        return [(lane, lock) for lane in range(len(self.opened)) if self.word(lane) == "settled"
                for lock in self.standing(lane)[4] if self.decided(lane, lock)[0] > self.now]

    def purse(self, hand):
        put = sum(row[2] * (row[0] == hand) + row[3] * (row[1] == hand) for row in self.opened)
        return FIRST - put + sum(coins for _, paid in self.rows for other, coins in paid if other == hand)


class RunTest(unittest.TestCase):
    def setUp(self):
        self.seen = {}

    def start(self, seed):
        self.chance = random.Random(seed)
        wait = self.chance.randint(1, 4)
        self.signs, self.count = Signs(), Count(wait)
        self.court = Court(self.signs, wait=wait, purses=tuple((hand, FIRST) for hand in HANDS))

    def do(self, due, deed, paid, asked, *told, **named):
        """Do a deed that is to be refused with due, or not where it is None."""
        word = f"{deed[0]} {due.__name__ if due else 'done'}"
        self.seen[word] = self.seen.get(word, 0) + 1
        if due is None:
            answer = asked(*told, **named)
            self.count.rows.append((deed, paid))
            return answer
        with self.assertRaises(CoinError) as caught:
            asked(*told, **named)
        self.assertIs(type(caught.exception), due)

    def sign(self, hands, paper):
        for hand in hands:
            if self.chance.random() < 0.9:
                self.signs.sign(hand, paper)
        return all(self.signs.signed(hand, paper) for hand in hands)

    def open_lane(self):
        count, chance = self.count, self.chance
        left, right = chance.choice(HANDS + ("emil",)), chance.choice(HANDS)
        coins = chance.choice([0, 0, 5, 9, 30]), chance.choice([0, 4, 8, 20])
        due = None
        if left == "emil" or left == right:
            due = NoHand
        elif coins == (0, 0) or count.purse(left) < coins[0] or count.purse(right) < coins[1]:
            due = NoCoins
        elif not self.sign((left, right), ("open", len(count.opened), left, right, *coins)):
            due = NotSigned
        number = self.do(due, ("open", left, right, *coins), [], self.court.lane, left, right,
                         left_coins=coins[0], right_coins=coins[1])
        if due is None:
            self.assertEqual(number, len(count.opened))
            count.opened.append((left, right, *coins))

    def any_state(self, lane):
        chance = self.chance
        coins = sum(self.count.opened[lane][2:]) if lane < len(self.count.opened) else 9
        coins += chance.choice([0] * 20 + [1])
        number, locks = chance.choice([0, 1, 2, 5, 7, 9, 12]), []
        for name in range(1, number + 1):
            amount = chance.randint(1, 5)
            if chance.random() < 0.4 and amount <= coins:
                coins -= amount
                locks.append((name, chance.choice(["left", "right"]), amount, seal_of(chance.randint(0, 3)),
                              self.count.now + chance.randint(-2, 8) if self.count.now > 1 else 3))
        left = chance.randint(0, coins)
        return (lane, number, left, coins - left, tuple(locks))

    def tell(self):
        count, chance = self.count, self.chance
        lane = chance.randint(0, len(count.opened))
        state = self.any_state(lane)
        due = None
        if lane == len(count.opened):
            due = NoLane
        else:
            first = (lane, 0, *count.opened[lane][2:], ())
            if chance.random() < 0.2:
                state = first
            signed = self.sign(count.opened[lane][:2], state) or state == first
            if count.word(lane) == "settled":
                due = Settled
            elif worth(state) != sum(count.opened[lane][2:]) or not signed:
                due = NotSigned
            elif count.word(lane) == "closing" and state[1] <= count.standing(lane)[1]:
                due = Old
        self.do(due, ("tell", state), [], self.court.tell, state)
        if due is None:
            count.told.append((count.now, state))

    def show(self):
        secret = self.chance.randint(0, 3)
        self.do(None, ("show", secret), [], self.court.show, secret)
        self.count.shown.setdefault(seal_of(secret), self.count.now)

    def turn(self):
        paid = self.count.paid(self.count.now + 1)
        self.assertEqual(self.do(None, ("turn",), paid, self.court.turn), paid)
        self.count.now += 1

    def compare(self):
        court, count = self.court, self.count
        self.assertEqual((court.now(), court.lanes(), court.coins()), (count.now, len(count.opened), 4 * FIRST))
        self.assertEqual([court.purse(hand) for hand in HANDS], [count.purse(hand) for hand in HANDS])
        self.assertEqual(court.held(), count.held())
        for lane, (left, right, left_coins, right_coins) in enumerate(count.opened):
            word = count.word(lane)
            end = None if word == "open" else count.end(lane)
            due = (word, left, right, left_coins + right_coins, count.standing(lane), end)
            self.assertEqual(court.stand(lane), due)
        for secret in range(5):
            told = court.shown(seal_of(secret)), court.secret(seal_of(secret))
            shown = count.shown.get(seal_of(secret))
            self.assertEqual(told, (shown, None if shown is None else secret))

    def test_many_runs(self):
        for seed in range(150):
            self.start(seed)
            for _ in range(40):
                deeds = [self.open_lane, self.tell, self.tell, self.turn, self.turn]
                self.chance.choice(deeds + [self.show] * (self.chance.random() < 0.4))()
                self.compare()
            self.assertEqual(self.court.rows(), self.count.rows)
        due = ["open done", "open NoHand", "open NoCoins", "open NotSigned", "tell done", "tell NoLane", "tell Settled",
               "tell NotSigned", "tell Old", "show done", "turn done"]
        self.assertEqual(sorted(self.seen), sorted(due))
        self.assertGreater(min(self.seen.values()), 20)


if __name__ == "__main__":
    unittest.main()
