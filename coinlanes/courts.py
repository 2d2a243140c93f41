"""The court: its clock of turns, the purses of hands, the lanes, and what it is told of them."""

from coinlanes.bounds import WAIT
from coinlanes.errors import NoCoins, NoHand, NoLane, NoName, NoNumber, NoState, NotSigned, Old, Settled
from coinlanes.seals import is_name, is_whole, seal_of
from coinlanes.states import first_state, is_state, other_side, worth

MOST_WAIT = 100
MOST_PURSES = 30


def is_purse(thing):
    """Tell whether thing is a tuple of two: a hand and its coins, if it is well made."""
    return isinstance(thing, tuple) and len(thing) == 2


def check_purses(purses):
    """Refuse with NoName where a hand is no name or stands twice, else, what else is wrong, with NoCoins."""
    pairs = [pair for pair in purses if is_purse(pair)] if isinstance(purses, tuple) else []
    seen = {}
    for hand, _ in pairs:
        # Only names are asked for in the dict: other things may not do as keys.
        if not is_name(hand) or hand in seen:
            raise NoName("the hands of purses are unlike names")
        seen[hand] = True
    if not isinstance(purses, tuple) or len(purses) > MOST_PURSES or len(pairs) < len(purses):
        raise NoCoins("purses are a tuple of at most thirty tuples (hand, coins)")
    if not all([is_whole(coins) for _, coins in pairs]):
        raise NoCoins("coins are a whole number from 0 on")


class Court:
    """Keep the purses and lanes of hands, and settle what is told of them, turn by turn."""

    def __init__(self, signs, *, wait=WAIT, purses=()):
        if not is_whole(wait) or not 1 <= wait <= MOST_WAIT:
            raise NoNumber("a wait is a whole number from 1 to 100")
        check_purses(purses)
        self._signs = signs
        self._wait = wait
        self._turn = 0
        self._purses = {hand: coins for hand, coins in purses}
        # By lanes: the first states, and what stand tells.
        self._firsts = []
        self._stands = []
        # From seals to tuples (turn, secret).
        self._shown = {}
        # Tuples (lane, lock), by lanes and ids.
        self._held = []
        # Tuples (deed, paid), paid as a tuple here, so that it can be nobody else's list.
        self._rows = []

    def lane(self, left, right, *, left_coins=0, right_coins=0):
        """Two hands open a lane; its number is told. NoHand, NoCoins, NotSigned."""
        if not self._has_purse(left) or not self._has_purse(right) or left == right:
            raise NoHand("a lane is opened by two hands that have purses")
        if not self._can_put(left, left_coins) or not self._can_put(right, right_coins):
            raise NoCoins("a hand puts in coins, no more than its purse has")
        if left_coins + right_coins == 0:
            raise NoCoins("some coins must go into a lane")
        number = len(self._stands)
        if not self._both_signed(left, right, ("open", number, left, right, left_coins, right_coins)):
            raise NotSigned("both hands must have signed the opening paper")
        self._purses[left] -= left_coins
        self._purses[right] -= right_coins
        first = first_state(number, left_coins, right_coins)
        self._firsts.append(first)
        self._stands.append(("open", left, right, left_coins + right_coins, first, None))
        self._keep_row(("open", left, right, left_coins, right_coins), [])
        return number

    def tell(self, state):
        """A state of a lane is told: it is closing now. NoState, NoLane, Settled, NotSigned, Old."""
        if not is_state(state):
            raise NoState("a state is a tuple (lane, number, left, right, locks)")
        word, left, right, coins, standing, end = self.stand(state[0])
        if word == "settled":
            raise Settled("the lane is settled")
        if worth(state) != coins:
            raise NotSigned("the state is not worth the coins of the lane")
        if state != self._firsts[state[0]] and not self._both_signed(left, right, state):
            raise NotSigned("both hands must have signed the state")
        if word == "closing" and state[1] <= standing[1]:
            raise Old("a state as new stands for the lane")
        if word == "open":
            end = self._turn + self._wait
        self._stands[state[0]] = ("closing", left, right, coins, state, end)
        self._keep_row(("tell", state), [])

    def show(self, secret):
        """A secret is shown: so is its seal, from the turn on at which it was shown first. NoSecret."""
        seal = seal_of(secret)
        if seal not in self._shown:
            self._shown[seal] = (self._turn, secret)
        self._keep_row(("show", secret), [])

    def turn(self):
        """A turn passes; told is what went to purses, as tuples (hand, coins), one behind the other."""
        self._turn += 1
        shares = self._settle_lanes()
        # Also the locks of the lanes that were settled just now are decided.
        paid = [(hand, coins) for hand, coins in shares + self._decide_locks() if coins > 0]
        for hand, coins in paid:
            self._purses[hand] += coins
        self._keep_row(("turn",), paid)
        return paid

    def now(self):
        """Tell the turn."""
        return self._turn

    def patience(self):
        """Tell the wait."""
        return self._wait

    def purse(self, hand):
        """Tell the coins in the purse of a hand. NoHand."""
        if not self._has_purse(hand):
            raise NoHand("the hand has no purse at the court")
        return self._purses[hand]

    def lanes(self):
        """Tell how many lanes were opened."""
        return len(self._stands)

    def coins(self):
        """Tell all coins: in purses, in lanes, and in the locks that are held."""
        laid = sum([row[3] for row in self._stands if row[0] != "settled"])
        return sum(self._purses.values()) + laid + sum([lock[2] for _, lock in self._held])

    def stand(self, lane):
        """Tell of a lane a tuple (word, left, right, coins, state, end). NoLane."""
        if not is_whole(lane) or lane >= len(self._stands):
            raise NoLane("no lane has this number")
        return self._stands[lane]

    def shown(self, seal):
        """Tell the turn at which a seal was first shown, or None. NoNumber."""
        return self._shown_of(seal)[0]

    def secret(self, seal):
        """Tell the secret that was shown for a seal, or None. NoNumber."""
        return self._shown_of(seal)[1]

    def held(self):
        """Tell the locks that the court holds, as tuples (lane, lock), by lanes and ids."""
        return list(self._held)

    def hands(self):
        """Tell the hands that have purses, in order of names."""
        return sorted(self._purses)

    def rows(self):
        """Tell for each deed that was not refused a tuple (deed, paid)."""
        return [(deed, list(paid)) for deed, paid in self._rows]

    def _has_purse(self, hand):
        return is_name(hand) and hand in self._purses

    def _can_put(self, hand, coins):
        return is_whole(coins) and coins <= self._purses[hand]

    def _both_signed(self, left, right, paper):
        return self._signs.signed(left, paper) and self._signs.signed(right, paper)

    def _keep_row(self, deed, paid):
        self._rows.append((deed, tuple(paid)))

    def _shown_of(self, seal):
        if not is_whole(seal):
            raise NoNumber("a seal is a whole number from 0 on")
        return self._shown.get(seal, (None, None))

    def _settle_lanes(self):
        """Settle the lanes that end at this turn; tell the shares, those that are 0 too."""
        shares = []
        for number, row in enumerate(list(self._stands)):
            word, left, right, coins, state, end = row
            if word == "closing" and end == self._turn:
                self._stands[number] = ("settled", left, right, coins, state, end)
                self._held += [(number, lock) for lock in state[4]]
                shares += [(left, state[2]), (right, state[3])]
        # Lanes may be settled in another order than that of their numbers.
        self._held = sorted(self._held)
        return shares

    def _decide_locks(self):
        """Let go of each lock whose amount is due to a hand now; tell these amounts."""
        paid, kept = [], []
        for number, lock in self._held:
            side = self._side_due(lock)
            if side is None:
                kept.append((number, lock))
            else:
                paid.append((self._hand_of(number, side), lock[2]))
        self._held = kept
        return paid

    def _side_due(self, lock):
        """Tell the side to which the amount of a held lock is due now, or None."""
        _, giver, _, seal, last = lock
        shown = self._shown_of(seal)[0]
        if shown is not None and shown <= last:
            return other_side(giver)
        return giver if self._turn > last else None

    def _hand_of(self, lane, side):
        _, left, right, _, _, _ = self._stands[lane]
        return left if side == "left" else right
