"""Point 4: whatever the others do, over many runs; and keepers among themselves, over many orders of letters."""

import random
import unittest

from coinlanes.courts import Court
from coinlanes.errors import CoinError, NoCoins, NoStep, Settled, Twice
from coinlanes.keepers import Keeper
from coinlanes.seals import seal_of
from coinlanes.signs import Signs
from coinlanes.states import first_state, next_state, worth

OTHERS = ("bert", "carl", "dora")
FIRST = 1000


class Foes:
    """A keeper of anna, all of whose neighbours want its coins and act as one."""

    def __init__(self, test, seed, seen):
        self.test, self.seen, self.chance = test, seen, random.Random(seed)
        chance = self.chance
        self.gap = chance.randint(1, 4)
        self.fee = (chance.randint(0, 2), chance.choice([0, 100]))
        self.rough, self.hurry = chance.choice([0.01, 0.05, 0.2, 1]), chance.choice([0.1, 0.3, 1])
        self.signs = Signs()
        self.court = Court(self.signs, wait=self.gap + chance.randint(1, 3),
                           purses=tuple((hand, FIRST) for hand in ("anna",) + OTHERS))
        self.keeper = Keeper("anna", self.court, self.signs, gap=self.gap, fee=self.fee)
        self.least, self.since, self.gifts, self.pays, self.out = FIRST, 0, 0, {}, {}
        for _ in range(chance.randint(3, 6)):
            self.open_lane()

    def note(self, word):
        self.seen[word] = self.seen.get(word, 0) + 1

    def check(self, out=0):
        """What it surely has fell by no more than what goes out."""
        sure = self.keeper.surely()
        self.test.assertGreaterEqual(sure, self.least - out)
        self.test.assertEqual(self.court.coins(), FIRST * 4)
        self.least = sure

    def look(self, asked, *told, **named):
        """A deed of the keeper or a letter to it, a look in any case but for a deed that is refused."""
        try:
            letters = asked(*told, **named)
        except CoinError as refusal:
            self.note(type(refusal).__name__)
            if asked == self.keeper.hear:
                self.since = 0
            self.check()
            return False
        self.since = 0
        self.check(sum(self.going_out(letter) for _, letter in letters))
        return True

    def going_out(self, letter):
        if letter[0] != "next":
            self.note(letter[0])
            return 0
        _, _, _, step, more = letter
        self.note("own " + step[0])
        if step[0] == "pay":
            self.gifts += step[2]
            return step[2]
        # Its own pays alone have a way that leads over lane 777.
        if step[0] == "lock" and more[:1] == ((777, 1, 1),):
            self.out[step[3]] = step[2]
            return step[2]
        if step[0] == "lock":
            self.note("handed on")
        return 0

    def open_lane(self):
        chance, other = self.chance, self.chance.choice(OTHERS)
        left, right = ("anna", other) if chance.random() < 0.5 else (other, "anna")
        paper = ("open", self.court.lanes(), left, right, chance.choice([0, 60, 90]), chance.choice([60, 90]))
        self.keeper.agree(paper)
        self.signs.sign(other, paper)
        self.court.lane(left, right, left_coins=paper[4], right_coins=paper[5])
        self.check()

    def turn(self):
        if self.since >= self.gap:
            self.look(self.keeper.wake)
        self.court.turn()
        self.since += 1
        self.check()
        if self.chance.random() < 0.3:
            self.look(self.keeper.wake)

    def peer(self, lane):
        _, left, right, _, _, _ = self.court.stand(lane)
        return (right, "right", "left") if left == "anna" else (left, "left", "right")

    def secret_of(self, seal):
        return next((secret for secret in range(12) if seal_of(secret) == seal), 0)

    def any_lock(self, side):
        chance, now = self.chance, self.court.now()
        amount, last = chance.randint(3, 30), now + chance.choice([0, 1, 3, 6, 9, 12, 16])
        more = ()
        if chance.random() < 0.9:
            flat, share = self.fee
            onward = max(1, (amount - flat) * 1000 // (1000 + share) + chance.choice([0, 0, 0, 0, -1, -2, 1]))
            open_lanes = [lane for lane in self.keeper.lanes() if self.court.stand(lane)[0] == "open"]
            lane = chance.choice(open_lanes or self.keeper.lanes())
            hop = (lane, onward, max(0, last - self.gap - chance.choice([0, 0, 0, 1, -1])))
            more = (hop, (5, 1, 1))[:chance.randint(1, 2)]
        return ("lock", side, amount, seal_of(chance.randint(0, 7)), last), more

    def any_step(self, lane):
        chance = self.chance
        newest = self.keeper.newest(lane)
        _, side, own = self.peer(lane)
        word = chance.choice(["lock", "lock", "lock", "pass", "pay", "drop", "fold", "fold"])
        if word == "lock":
            return self.any_lock(side)
        if word in ("drop", "fold") and newest[4]:
            lock = chance.choice(newest[4])
            return ((word, lock[0]) if word == "drop" else (word, lock[0], self.secret_of(lock[3]))), ()
        if word == "pay":
            return ("pay", chance.choice([side, side, own]), chance.randint(1, 9)), ()
        return ("pass",), ()

    def propose(self, lane):
        newest = self.keeper.newest(lane)
        peer, side, _ = self.peer(lane)
        if (newest[1] % 2 == 0) != (side == "left"):
            self.look(self.keeper.hear, peer, ("turn", lane))
            return
        step, more = self.any_step(lane)
        try:
            state = next_state(newest, step)
        except NoStep:
            return
        if self.chance.random() < 0.95:
            self.signs.sign(peer, state)
        if self.look(self.keeper.hear, peer, ("next", lane, state[1], step, more)):
            self.note("took " + step[0])

    def answer(self, lane):
        """Sign what the keeper proposed, perhaps in secret, and perhaps say so, perhaps twice."""
        pending, chance = self.keeper.pending(lane), self.chance
        if pending is None:
            self.propose(lane)
            return
        peer = self.peer(lane)[0]
        if chance.random() < 0.9:
            self.signs.sign(peer, pending)
        for _ in range(chance.choice([0, 1, 1, 1, 1, 2])):
            self.look(self.keeper.hear, peer, ("done", lane, pending[1]))

    def tell(self, lane):
        """Tell any state that anna signed, or the first one, at the court."""
        papers = [paper for paper in self.signs.papers("anna") if paper[:1] == (lane,)]
        opening = [deed for deed, _ in self.court.rows() if deed[0] == "open"][lane]
        state = self.chance.choice(papers + [first_state(lane, *opening[3:])])
        self.signs.sign(self.peer(lane)[0], state)
        try:
            self.court.tell(state)
            self.note("told")
        except CoinError:
            pass
        self.check()

    def made_up(self, lane):
        number, peer = self.keeper.newest(lane)[1], self.peer(lane)[0]
        letters = [None, ("turn",), ("done", lane, number), ["turn", lane], ("next", lane, number + 1, ("pass",), []),
                   ("next", lane, number + 1, ("pay", self.peer(lane)[2], 1), ())]
        self.look(self.keeper.hear, peer, self.chance.choice(letters))

    def own_deed(self, lane):
        chance = self.chance
        if chance.random() < 0.3:
            self.look(self.keeper.give, lane, chance.randint(1, 10))
        elif chance.random() < 0.5:
            seal, amount = seal_of(chance.randint(0, 11)), chance.randint(1, 15)
            if self.look(self.keeper.pay, ((lane, amount, self.court.now() + chance.randint(1, 14)), (777, 1, 1)),
                         seal=seal):
                self.pays[seal] = amount
        else:
            try:
                self.keeper.bill(chance.randint(3, 11), amount=chance.randint(1, 15))
                self.note("billed")
            except Twice:
                pass
            self.check()

    def act(self):
        chance, lane = self.chance, self.chance.choice(self.keeper.lanes())
        word = chance.choice(["propose"] * 8 + ["answer"] * 14 + ["turn"] * 3 + ["own"] * 3 + ["rough"] * 3 + ["lane"])
        if word == "propose":
            self.propose(lane)
        elif word == "answer":
            self.answer(lane)
        elif word == "own":
            self.own_deed(lane)
        elif word == "turn" and chance.random() < self.hurry:
            self.turn()
        elif word == "lane" and self.court.lanes() < 8:
            self.open_lane()
        elif word == "rough" and chance.random() < self.rough:
            rough = chance.randint(0, 3)
            if rough == 0:
                self.tell(lane)
            elif rough == 1:
                self.court.show(chance.randint(0, 7))
                self.check()
            elif rough == 2:
                self.made_up(lane)
            elif chance.random() < 0.3:
                self.look(self.keeper.shut, lane)

    def finish(self):
        """All lanes end: then the purse is what it surely has, and what was lost of pays has its secret."""
        for lane in self.keeper.lanes():
            if self.court.stand(lane)[0] == "open":
                if self.chance.random() < 0.5:
                    self.look(self.keeper.shut, lane)
                else:
                    self.tell(lane)
        for _ in range(40):
            self.turn()
        self.test.assertEqual({self.court.stand(lane)[0] for lane in self.keeper.lanes()}, {"settled"})
        self.test.assertEqual(self.court.held(), [])
        self.test.assertEqual(self.court.purse("anna"), self.keeper.surely())
        lost = {seal: amount for seal, _, amount in self.keeper.receipts()}
        for seal in self.out:
            self.note("with its secret" if seal in lost else "without its secret")
        self.test.assertEqual({seal: self.out[seal] for seal in lost}, lost)
        self.test.assertGreaterEqual(self.court.purse("anna"), FIRST - self.gifts - sum(lost.values()))


class FoesTest(unittest.TestCase):
    def test_many_runs(self):
        seen = {}
        for seed in range(250):
            with self.subTest(seed=seed):
                foes = Foes(self, seed, seen)
                for _ in range(120):
                    foes.act()
                foes.finish()
        due = ["handed on", "own lock", "own fold", "own drop", "own pay", "own pass", "done", "turn", "took lock",
               "took pass", "took pay", "took drop", "took fold", "told", "billed", "with its secret",
               "without its secret", "NoStep", "NoLetter", "NotSigned"]
        for word in due:
            self.assertGreater(seen.get(word, 0), 100, (word, seen))


class Friends:
    """Keepers of several hands, and the letters between them, from each to each in order."""

    def __init__(self, seed):
        self.chance = random.Random(seed)
        chance = self.chance
        self.gap, self.hands = chance.randint(1, 3), ["anna", "bert", "carl", "dora", "emil"][:chance.randint(2, 5)]
        self.fee = (chance.randint(0, 2), chance.choice([0, 100]))
        self.signs = Signs()
        self.court = Court(self.signs, wait=8, purses=tuple((hand, FIRST) for hand in self.hands))
        self.keepers = {hand: Keeper(hand, self.court, self.signs, gap=self.gap, fee=self.fee) for hand in self.hands}
        self.lying, self.rounds, self.pays, self.gifts = {}, 0, [], []
        for _ in range(chance.randint(1, 7)):
            left, right = chance.sample(self.hands, 2)
            paper = ("open", self.court.lanes(), left, right, chance.choice([0, 40, 90]), chance.choice([1, 30, 90]))
            self.keepers[left].agree(paper)
            self.keepers[right].agree(paper)
            self.court.lane(left, right, left_coins=paper[4], right_coins=paper[5])

    def put(self, hand, letters):
        for other, letter in letters:
            self.lying.setdefault((hand, other), []).append(letter)

    def step(self):
        pairs = sorted(pair for pair, letters in self.lying.items() if letters)
        if not pairs:
            return False
        hand, other = self.chance.choice(pairs)
        # Keepers never write what keepers refuse, while each last is far ahead.
        self.put(other, self.keepers[other].hear(hand, self.lying[hand, other].pop(0)))
        return True

    def begin(self, secret):
        """A pay along any lanes, which need not have the means for it, or a gift."""
        chance, now = self.chance, self.court.now()
        hand = chance.choice(self.hands)
        if not self.keepers[hand].lanes():
            return
        if chance.random() < 0.3:
            lane, amount = chance.choice(self.keepers[hand].lanes()), chance.randint(1, 20)
            try:
                self.put(hand, self.keepers[hand].give(lane, amount))
            except (NoCoins, Settled):
                pass
            return
        payer, way = hand, []
        for _ in range(chance.randint(1, 4)):
            lane = chance.choice(self.keepers[hand].lanes())
            way.append((lane, hand))
            _, left, right, _, _, _ = self.court.stand(lane)
            hand = right if hand == left else left
        if hand == payer:
            return
        amount = chance.randint(1, 15)
        hops, due = [], amount
        for place, (lane, giver) in enumerate(way[::-1]):
            hops.append((lane, due, now + 30 + self.gap * place))
            due += self.fee[0] + due * self.fee[1] // 1000
        billed = amount + chance.choice([0, 0, 0, -1, 1])
        seal = self.keepers[hand].bill(secret, amount=max(1, billed))
        try:
            self.put(payer, self.keepers[payer].pay(tuple(hops[::-1]), seal=seal))
        except NoCoins:
            return
        # A way may lead over the payee ahead of its end: there it takes what comes to it.
        takers = [giver for _, giver in way[1:]] + [hand]
        self.pays.append((payer, hand, seal, max(1, billed), hops[::-1][takers.index(hand)][1], hops[-1][1]))


class FriendsTest(unittest.TestCase):
    def run_of(self, seed, seen):
        friends = Friends(seed)
        for secret in range(25):
            friends.begin(secret)
            for _ in range(friends.chance.randint(0, 12)):
                friends.step()
            if friends.chance.random() < 0.05:
                friends.court.turn()
                for hand in friends.hands:
                    friends.put(hand, friends.keepers[hand].wake())
        while friends.step():
            pass
        self.at_rest(friends, seen)

    def at_rest(self, friends, seen):
        court, keepers = friends.court, friends.keepers
        self.assertEqual([deed for deed, _ in court.rows() if deed[0] in ("tell", "show")], [])
        for lane in range(court.lanes()):
            word, left, right, coins, _, _ = court.stand(lane)
            newest = keepers[left].newest(lane)
            self.assertEqual((word, keepers[right].newest(lane), newest[4]), ("open", newest, ()))
            self.assertEqual((keepers[left].pending(lane), keepers[right].pending(lane)), (None, None))
            self.assertEqual(worth(newest), coins)
        self.assertEqual([keeper.waiting() for keeper in keepers.values()], [0] * len(keepers))
        self.assertEqual(sum(keeper.surely() for keeper in keepers.values()), FIRST * len(keepers))
        for payer, payee, seal, billed, amount, first in friends.pays:
            receipts = [row for row in keepers[payer].receipts() if row[0] == seal]
            if receipts:
                self.assertEqual(receipts, [(seal, keepers[payee].secret(seal), first)])
                self.assertGreaterEqual(amount, billed)
            word = "through" if receipts else "back"
            seen[word] = seen.get(word, 0) + 1

    def test_many_orders(self):
        seen = {}
        for seed in range(200):
            with self.subTest(seed=seed):
                self.run_of(seed, seen)
        self.assertGreater(min(seen["through"], seen["back"]), 300)

    def test_one_payment_after_the_other(self):
        """Where nothing else lies, and no pay but one, every coin of it can be told."""
        seen = {"through": 0, "back": 0}
        for seed in range(150):
            friends = Friends(1000 + seed)
            for secret in range(8):
                before = {hand: friends.keepers[hand].surely() for hand in friends.hands}
                many = len(friends.pays)
                friends.begin(secret)
                while friends.step():
                    pass
                if len(friends.pays) == many:
                    continue
                payer, payee, seal, billed, amount, first = friends.pays[-1]
                after = {hand: friends.keepers[hand].surely() for hand in friends.hands}
                through = [row for row in friends.keepers[payer].receipts() if row[0] == seal] != []
                seen["through" if through else "back"] += 1
                if not through:
                    self.assertEqual(after, before)
                    continue
                gains = {hand: after[hand] - before[hand] for hand in friends.hands}
                self.assertEqual(sum(gains.values()), 0)
                self.assertGreaterEqual(gains[payee], amount)
                self.assertGreaterEqual(gains[payer], -first)
                self.assertTrue(all(gains[hand] >= 0 for hand in friends.hands if hand != payer))
        self.assertGreater(min(seen.values()), 60)


if __name__ == "__main__":
    unittest.main()
