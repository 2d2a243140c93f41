"""Signs: who signed which paper."""

from coinlanes.errors import NoName, NoPaper
from coinlanes.seals import is_name, is_whole
from coinlanes.states import is_state


def is_opening(thing):
    """Tell whether thing is an opening: a tuple ("open", lane, left, right, left coins, right coins)."""
    if not isinstance(thing, tuple) or len(thing) != 6:
        return False
    word, lane, left, right, left_coins, right_coins = thing
    if not isinstance(word, str) or word != "open" or not is_whole(lane):
        return False
    if not is_name(left) or not is_name(right) or left == right:
        return False
    return is_whole(left_coins) and is_whole(right_coins) and left_coins + right_coins > 0


def is_paper(thing):
    """Tell whether thing is a paper: a state or an opening."""
    return is_state(thing) or is_opening(thing)


def check_name(thing):
    """Refuse what is no name with NoName."""
    if not is_name(thing):
        raise NoName("a name is a text of one to eight small letters")


def check_paper(thing):
    """Refuse what is no paper with NoPaper."""
    if not is_paper(thing):
        raise NoPaper("a paper is a state or an opening")


class Signs:
    """Keep which hand signed which papers."""

    def __init__(self):
        # For each hand a dict from papers to True, in the order in which it signed them.
        self._signed = {}

    def sign(self, hand, paper):
        """A hand signs a paper; signed again it stays signed. NoName, NoPaper."""
        check_name(hand)
        check_paper(paper)
        papers = self._signed.setdefault(hand, {})
        papers[paper] = True

    def signed(self, hand, paper):
        """Tell whether a hand signed a paper. NoName, NoPaper."""
        check_name(hand)
        check_paper(paper)
        return paper in self._signed.get(hand, {})

    def papers(self, hand):
        """Tell the papers of a hand, each once, in the order in which it signed them. NoName."""
        check_name(hand)
        return list(self._signed.get(hand, {}))
