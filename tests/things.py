"""What several tests hand in: things of all kinds, most of which are of none that is due, and a scene for a keeper."""

import unittest

from coinlanes.courts import Court
from coinlanes.errors import CoinError
from coinlanes.keepers import Keeper
from coinlanes.seals import seal_of
from coinlanes.signs import Signs
from coinlanes.states import next_state

GREATEST = 999999999999999
FORTY = 10 ** 39 + 7


def nested(depth, leaf=()):
    thing = leaf
    for _ in range(depth):
        thing = [thing]
    return thing


def nested_tuples(depth):
    thing = ()
    for _ in range(depth):
        thing = (thing,)
    return thing


class Plain:
    """An object of no kind that the program knows."""


NO_NUMBERS = [
    None, True, False, "", "0", "1", "7", "left", b"1", b"", (), (1,), [], [1], {}, {1: 1}, {1}, set(),
    frozenset(), nested(20), nested_tuples(20), Plain(), Plain, len, [1] * 200, object(),
]
BELOW_0 = [-1, -2, -GREATEST, -10 ** 5000]
NO_WHOLE = NO_NUMBERS + BELOW_0
NO_POSITIVE = NO_WHOLE + [0]
NO_SIDES = NO_WHOLE + [
    0, 1, 2, "Left", "left ", " left", "lef", "leftt", "LEFT", "Right", "right ", "l", "both", "left\n", b"left",
    ["left"], ("left",), ("left", "right"), {"left": 1}, "leftright", "lft",
]
NO_NAMES = [thing for thing in NO_WHOLE if thing != "left"] + [
    0, 1, GREATEST, "Anna", "anna ", " anna", "ann a", "abcdefghi", "anna1", "anna\n", b"anna", ["anna"], ("anna",),
    {"anna": 1}, "x" * 2000, ["anna", "bert"],
]
ANY = NO_WHOLE + NO_NAMES + NO_SIDES + [GREATEST, FORTY, 10 ** 5000, "anna", "x" * 2000, list("anna") * 50]


def with_part(whole, place, part):
    """The tuple with another part at a place."""
    return whole[:place] + (part,) + whole[place + 1:]


def exchanged(whole, one, other):
    parts = list(whole)
    parts[one], parts[other] = parts[other], parts[one]
    return tuple(parts)


def can_be_key(thing):
    try:
        return hash(thing) is not None
    except TypeError:
        return False


class KeeperTest(unittest.TestCase):
    """A keeper of anna, who stands on lanes with other hands; these the tests play themselves."""

    HANDS = ("anna", "bert", "carl", "dora")
    GAP, WAIT, TAKES = 2, 5, (1, 100)

    def setUp(self):
        self.signs = Signs()
        self.court = Court(self.signs, wait=self.WAIT, purses=tuple((hand, 1000) for hand in self.HANDS))
        self.keeper = Keeper("anna", self.court, self.signs, gap=self.GAP, fee=self.TAKES)

    def tearDown(self):
        # 4 (a), whatever a test did.
        self.assertEqual(self.court.coins(), 1000 * len(self.HANDS))

    def everything(self):
        keeper, court = self.keeper, self.court
        told = [keeper.lanes(), keeper.receipts(), keeper.waiting(), keeper.surely()]
        told += [(keeper.newest(lane), keeper.pending(lane)) for lane in keeper.lanes()]
        told += [keeper.secret(seal_of(secret)) for secret in range(60)]
        told += [self.signs.papers(hand) for hand in self.HANDS]
        return told + [court.rows(), court.held(), court.now()]

    def assert_refused(self, kind, asked, *told, **named):
        before = self.everything()
        with self.assertRaises(CoinError) as caught:
            asked(*told, **named)
        self.assertIs(type(caught.exception), kind)
        self.assertEqual(self.everything(), before)

    def lane(self, left, right, left_coins=100, right_coins=100):
        """A lane between anna and another hand is opened; told is its number."""
        paper = ("open", self.court.lanes(), left, right, left_coins, right_coins)
        self.keeper.agree(paper)
        self.signs.sign(right if left == "anna" else left, paper)
        return self.court.lane(left, right, left_coins=left_coins, right_coins=right_coins)

    def peer(self, lane):
        _, left, right, _, _, _ = self.court.stand(lane)
        return right if left == "anna" else left

    def peer_side(self, lane):
        return "left" if self.court.stand(lane)[1] == self.peer(lane) else "right"

    def letter(self, lane, step, more=()):
        """The other hand signs its next state; told is its letter."""
        state = next_state(self.keeper.newest(lane), step)
        self.signs.sign(self.peer(lane), state)
        return ("next", lane, state[1], step, more)

    def hear(self, lane, letter):
        return self.keeper.hear(self.peer(lane), letter)

    def propose(self, lane, step, more=()):
        """The other hand proposes, the keeper takes it: told is what it puts out behind its done."""
        letter = self.letter(lane, step, more)
        told = self.hear(lane, letter)
        self.assertEqual(told[0], (self.peer(lane), ("done", lane, letter[2])))
        self.assertEqual(self.keeper.newest(lane)[1], letter[2])
        return told[1:]

    def offer(self, lane, amount, seal, last, more=()):
        """The other hand sets a lock aside for anna."""
        return self.propose(lane, ("lock", self.peer_side(lane), amount, seal, last), more)

    def accept(self, lane):
        """The other hand takes what the keeper proposed."""
        state = self.keeper.pending(lane)
        self.signs.sign(self.peer(lane), state)
        told = self.hear(lane, ("done", lane, state[1]))
        self.assertEqual(self.keeper.newest(lane), state)
        return told

    def pass_on(self, lane):
        """Let the side whose turn it is pass, so that it is the other one's."""
        if self.keeper.newest(lane)[1] % 2 == (0 if self.peer_side(lane) == "left" else 1):
            return self.propose(lane, ("pass",))
        self.assertEqual(self.hear(lane, ("turn", lane)),
                         [(self.peer(lane), ("next", lane, self.keeper.newest(lane)[1] + 1, ("pass",), ()))])
        return self.accept(lane)

    def turns(self, many):
        """Turns pass at the court, and the keeper looks at each."""
        told = []
        for _ in range(many):
            self.court.turn()
            told += self.keeper.wake()
        return told

    def sign_all(self, state):
        for hand in self.HANDS:
            self.signs.sign(hand, state)
        return state


class TwoLanesTest(KeeperTest):
    """Lane 0 leads from bert to anna, lane 1 from anna to carl; the first named is left and proposes first."""

    def setUp(self):
        super().setUp()
        self.lane("bert", "anna")
        self.lane("anna", "carl")
