"""Locks, states of a lane, and the steps from one state to the next."""

from coinlanes.errors import NoState, NoStep
from coinlanes.seals import is_whole, seal_of

MOST_LOCKS = 30


def is_positive(thing):
    """Tell whether thing is a whole number from 1 on."""
    return is_whole(thing) and thing > 0


def is_side(thing):
    """Tell whether thing is one of the two sides of a lane."""
    return isinstance(thing, str) and thing in ("left", "right")


def other_side(side):
    """Tell the side that is not this one."""
    return "right" if side == "left" else "left"


def is_lock(thing):
    """Tell whether thing is a lock: a tuple (id, giver, amount, seal, last)."""
    if not isinstance(thing, tuple) or len(thing) != 5:
        return False
    number, giver, amount, seal, last = thing
    return is_positive(number) and is_side(giver) and is_positive(amount) and is_whole(seal) and is_whole(last)


def are_locks(thing, number):
    """Tell whether thing is a tuple of locks that a state with this number may have."""
    if not isinstance(thing, tuple) or len(thing) > MOST_LOCKS:
        return False
    low = 0
    for lock in thing:
        if not is_lock(lock) or not low < lock[0] <= number:
            return False
        low = lock[0]
    return True


def is_state(thing):
    """Tell whether thing is a state: a tuple (lane, number, left, right, locks)."""
    if not isinstance(thing, tuple) or len(thing) != 5:
        return False
    return all([is_whole(part) for part in thing[:4]]) and are_locks(thing[4], thing[1])


def is_step(thing):
    """Tell whether thing is a step: a pay, a lock, a fold, a drop or a pass."""
    if not isinstance(thing, tuple) or len(thing) == 0 or not isinstance(thing[0], str):
        return False
    word, parts = thing[0], thing[1:]
    if word == "pay":
        return len(parts) == 2 and is_side(parts[0]) and is_positive(parts[1])
    if word == "lock":
        # Behind its word it has what a lock has behind its id.
        return is_lock((1, *parts))
    if word == "fold":
        return len(parts) == 2 and is_positive(parts[0]) and is_whole(parts[1])
    if word == "drop":
        return len(parts) == 1 and is_positive(parts[0])
    return word == "pass" and len(parts) == 0


def check_state(thing):
    """Refuse what is no state with NoState."""
    if not is_state(thing):
        raise NoState("a state is a tuple (lane, number, left, right, locks)")


def worth(state):
    """Tell the coins of both sides and of all locks together; NoState."""
    check_state(state)
    return state[2] + state[3] + sum([lock[2] for lock in state[4]])


def first_state(lane, left, right):
    """Tell the state with which a lane begins."""
    return (lane, 0, left, right, ())


def next_state(state, step):
    """Tell the state that comes of a state by a step; NoState, then NoStep."""
    check_state(state)
    if not is_step(step):
        raise NoStep("a step is a tuple: a pay, a lock, a fold, a drop or a pass")
    lane, number, left, right, locks = changed(state, step)
    return (lane, number + 1, left, right, locks)


def changed(state, step):
    """Tell what a step makes of a state, still under the number of that state."""
    word = step[0]
    if word == "pay":
        _, giver, amount = step
        return with_more(with_less(state, giver, amount), other_side(giver), amount)
    if word == "lock":
        return with_lock(state, step[1:])
    if word == "fold":
        _, number, secret = step
        lock = lock_of(state, number)
        if seal_of(secret) != lock[3]:
            raise NoStep("the secret does not open the seal of the lock")
        return with_more(without_lock(state, lock), other_side(lock[1]), lock[2])
    if word == "drop":
        lock = lock_of(state, step[1])
        return with_more(without_lock(state, lock), lock[1], lock[2])
    return state


def with_more(state, side, amount):
    """Tell the state with so much more on a side."""
    lane, number, left, right, locks = state
    if side == "left":
        return (lane, number, left + amount, right, locks)
    return (lane, number, left, right + amount, locks)


def with_less(state, side, amount):
    """Tell the state with so much less on a side; NoStep where that were less than nothing."""
    if share_of(state, side) < amount:
        raise NoStep("a side would have less than nothing")
    return with_more(state, side, -amount)


def share_of(state, side):
    """Tell the coins of a side."""
    return state[2] if side == "left" else state[3]


def with_lock(state, parts):
    """Tell the state with a lock of these parts set aside; NoStep where it can't be."""
    giver, amount, seal, last = parts
    lane, number, left, right, locks = with_less(state, giver, amount)
    if len(locks) >= MOST_LOCKS:
        raise NoStep("there would be more than thirty locks")
    return (lane, number, left, right, (*locks, (number + 1, giver, amount, seal, last)))


def without_lock(state, lock):
    """Tell the state without one of its locks, whose amount is on no side then."""
    lane, number, left, right, locks = state
    return (lane, number, left, right, tuple([other for other in locks if other != lock]))


def lock_of(state, number):
    """Tell the lock of a state that has this number as its id; NoStep where none has."""
    for lock in state[4]:
        if lock[0] == number:
            return lock
    raise NoStep("no lock has that id")
