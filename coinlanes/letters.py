"""Hops, and the letters that the two ends of a lane write to one another."""

from coinlanes.seals import is_whole
from coinlanes.states import is_positive, is_step

MOST_HOPS = 40


def is_hop(thing):
    """Tell whether thing is a hop: a tuple (lane, amount, last)."""
    if not isinstance(thing, tuple) or len(thing) != 3:
        return False
    lane, amount, last = thing
    return is_whole(lane) and is_positive(amount) and is_whole(last)


def are_hops(thing):
    """Tell whether thing is a tuple of hops, perhaps of none."""
    if not isinstance(thing, tuple) or len(thing) > MOST_HOPS:
        return False
    return all([is_hop(hop) for hop in thing])


def begins_with(thing, word, many):
    """Tell whether thing is a tuple of so many parts, the first of them this word, the second a lane's number."""
    if not isinstance(thing, tuple) or len(thing) != many:
        return False
    return isinstance(thing[0], str) and thing[0] == word and is_whole(thing[1])


def is_next(thing):
    """Tell whether thing is a letter ("next", lane, number, step, more)."""
    return begins_with(thing, "next", 5) and is_whole(thing[2]) and is_step(thing[3]) and are_hops(thing[4])


def is_done(thing):
    """Tell whether thing is a letter ("done", lane, number)."""
    return begins_with(thing, "done", 3) and is_whole(thing[2])


def is_turn(thing):
    """Tell whether thing is a letter ("turn", lane)."""
    return begins_with(thing, "turn", 2)


def is_letter(thing):
    """Tell whether thing is a letter of any of the three words."""
    return is_next(thing) or is_done(thing) or is_turn(thing)
