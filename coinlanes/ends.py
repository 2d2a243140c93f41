"""One end of a lane: it proposes states to the other end, and takes those that the other end proposes."""

from coinlanes.errors import NoLetter, NotSigned, NotYours, Waiting
from coinlanes.letters import is_done, is_next
from coinlanes.states import next_state


class End:
    """Keep the newest state of a lane for one side, and the state that it has proposed."""

    def __init__(self, signs, side, hands, state):
        left, right = hands
        self._signs = signs
        self._hand = left if side == "left" else right
        self._other = right if side == "left" else left
        # The left side proposes the odd numbers.
        self._odd = 1 if side == "left" else 0
        self._newest = state
        self._pending = None

    def propose(self, step, *, more=()):
        """Propose a step; told is the letter for the other side. NotYours, Waiting, NoStep."""
        if not self.proposes():
            raise NotYours("the other side proposes next")
        if self._pending is not None:
            raise Waiting("a state is pending")
        state = next_state(self._newest, step)
        self._signs.sign(self._hand, state)
        self._pending = state
        return ("next", state[0], state[1], step, more)

    def take(self, letter):
        """Take a proposal of the other side; told is the letter that says so. Refused as a look is."""
        state = self.look(letter)
        self._signs.sign(self._hand, state)
        self._newest = state
        return ("done", state[0], state[1])

    def look(self, letter):
        """Tell the state that a letter proposes. NoLetter, NotYours, NoLetter, NoStep, NotSigned."""
        lane, number = self._newest[:2]
        if not is_next(letter) or letter[1] != lane:
            raise NoLetter("this is no proposal for this lane")
        if self.proposes():
            raise NotYours("this side proposes next")
        if letter[2] != number + 1:
            raise NoLetter("this is not the number of the next state")
        state = next_state(self._newest, letter[3])
        self._check_signed(state)
        return state

    def done(self, letter):
        """Hear that the other side took the pending state: it is the newest one. NoLetter, NotSigned."""
        if not is_done(letter) or letter[1] != self._newest[0]:
            raise NoLetter("this is no letter for this lane that says that a state was taken")
        if self._pending is None or letter[2] != self._pending[1]:
            raise NoLetter("no state of this number is pending")
        self._check_signed(self._pending)
        self._newest = self._pending
        self._pending = None

    def newest(self):
        """Tell the newest state."""
        return self._newest

    def pending(self):
        """Tell the state that was proposed and is not known to be taken, or None."""
        return self._pending

    def proposes(self):
        """Tell whether this side proposes the next state."""
        return ((self._newest[1] + 1) & 1) == self._odd

    def may_count(self):
        """Tell the states that may count at the court: the newest one, and the pending one behind it."""
        if self._pending is None:
            return [self._newest]
        return [self._newest, self._pending]

    def _check_signed(self, state):
        """Refuse with NotSigned what the other hand has not signed."""
        if not self._signs.signed(self._other, state):
            raise NotSigned("the other hand has not signed this state")
