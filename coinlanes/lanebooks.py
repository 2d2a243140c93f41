"""What a keeper keeps of one lane."""

from coinlanes.states import share_of


class LaneBook:
    """One end of a lane, the hand at the other one, and what the keeper remembers of the lane's locks."""

    def __init__(self, number, side, peer, end):
        self.number = number
        self.side = side
        self.peer = peer
        self.end = end
        # By ids of the locks that the other side gave: the hops still ahead of them, and the
        # tuple (lane, lock) that was handed on for them.
        self.hops = {}
        self.handed = {}
        # The ids of the locks that this side gave for one that came, each with True.
        self.onward = {}
        # The numbers of the newest states for which the other side, and this one, asked by turn.
        self.asked = None
        self.asking = None

    def share(self):
        """Tell this side's coins in the newest state."""
        return share_of(self.end.newest(), self.side)

    def locks_in(self, state):
        """Tell the locks of a state that the other side gave."""
        return [lock for lock in state[4] if lock[1] != self.side]

    def locks_out(self, state):
        """Tell the locks of a state that this side gave."""
        return [lock for lock in state[4] if lock[1] == self.side]

    def counts(self, lock):
        """Tell whether a lock stands in a state that may count."""
        return any([lock in state[4] for state in self.end.may_count()])
