"""Court deeds, and what is told by the rows of a court."""

from coinlanes.bounds import WAIT
from coinlanes.courts import Court
from coinlanes.errors import NoCoins, NoHand, NoLane, NotSigned, Old, Settled, Stuck
from coinlanes.seals import is_name, is_whole
from coinlanes.states import is_positive, is_state


def is_deed(thing):
    """Tell whether thing is a court deed: an open, a tell, a show or a turn."""
    if not isinstance(thing, tuple) or len(thing) == 0 or not isinstance(thing[0], str):
        return False
    word, parts = thing[0], thing[1:]
    if word == "open" and len(parts) == 4:
        left, right, left_coins, right_coins = parts
        return is_name(left) and is_name(right) and is_whole(left_coins) and is_whole(right_coins)
    if word == "tell" and len(parts) == 1:
        return is_state(parts[0])
    if word == "show" and len(parts) == 1:
        return is_whole(parts[0])
    return word == "turn" and len(parts) == 0


def court_of(signs, deeds, *, wait=WAIT, purses=()):
    """Tell a new court on which these deeds were done. Refused as a Court; Stuck."""
    court = Court(signs, wait=wait, purses=purses)
    for place, deed in enumerate(deeds):
        _, word = outcome(court, deed)
        if word is not None:
            raise Stuck(place, word)
    return court


def first_wrong(signs, rows, *, wait=WAIT, purses=()):
    """Tell the place of the first row that is wrong, or None. Refused as a Court."""
    court = Court(signs, wait=wait, purses=purses)
    for place, row in enumerate(rows):
        if not is_right(court, row):
            return place
    return None


def coins_of(hand, rows, *, purses=()):
    """Tell the coins of a hand behind these rows. NoHand."""
    firsts = {owner: coins for owner, coins in purses}
    if not is_name(hand) or hand not in firsts:
        raise NoHand("the hand has no purse at the court")
    coins = firsts[hand]
    for deed, paid in rows:
        if deed[0] == "open":
            _, left, right, left_coins, right_coins = deed
            coins -= (left_coins if left == hand else 0) + (right_coins if right == hand else 0)
        coins += sum([amount for owner, amount in paid if owner == hand])
    return coins


def told_states(lane, rows):
    """Tell the states of a lane that were told, in order."""
    if not is_whole(lane):
        return []
    states = [deed[1] for deed, _ in rows if deed[0] == "tell"]
    return [state for state in states if state[0] == lane]


def outcome(court, deed):
    """Do a deed; told is a tuple (what was paid, the word of its refusal), the word None where it was done."""
    if not is_deed(deed):
        return ([], "NoDeed")
    try:
        return (done_at(court, deed), None)
    except NoHand:
        return ([], "NoHand")
    except NoCoins:
        return ([], "NoCoins")
    except NotSigned:
        return ([], "NotSigned")
    except NoLane:
        return ([], "NoLane")
    except Settled:
        return ([], "Settled")
    except Old:
        return ([], "Old")


def done_at(court, deed):
    """Do a deed at a court; told is what was paid by it. Refused as the court does."""
    word = deed[0]
    if word == "open":
        _, left, right, left_coins, right_coins = deed
        court.lane(left, right, left_coins=left_coins, right_coins=right_coins)
    elif word == "tell":
        court.tell(deed[1])
    elif word == "show":
        court.show(deed[1])
    else:
        return court.turn()
    return []


def is_right(court, row):
    """Tell whether thing is a row whose deed the court does not refuse, and whose paid is what comes of it."""
    if not isinstance(row, tuple) or len(row) != 2 or not is_paid(row[1]):
        return False
    paid, word = outcome(court, row[0])
    return word is None and paid == row[1]


def is_paid(thing):
    """Tell whether thing is a list of tuples (hand, coins)."""
    return isinstance(thing, list) and all([is_payment(part) for part in thing])


def is_payment(thing):
    """Tell whether thing is a tuple (hand, coins), some coins at least."""
    return isinstance(thing, tuple) and len(thing) == 2 and is_name(thing[0]) and is_positive(thing[1])
