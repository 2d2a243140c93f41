"""How a keeper sees its lanes and their locks, by the court as it is at the moment."""

from coinlanes.ends import End
from coinlanes.errors import NoLane
from coinlanes.known import Known
from coinlanes.lanebooks import LaneBook
from coinlanes.seals import is_whole
from coinlanes.states import MOST_LOCKS, first_state, lock_of, share_of
from coinlanes.ways import fee_for


class View:
    """Keep the books of a hand's lanes and what it knows, and answer what is asked of them."""

    def __init__(self, hand, court, signs, gap, fee):
        self.known = Known(court)
        # The books of the hand's lanes, by lanes, rising.
        self.books = {}
        self._hand = hand
        self._court = court
        self._signs = signs
        self._gap = gap
        self._fee = fee
        # How many of the court's lanes were looked through.
        self._looked = 0

    def catch_up(self):
        """Make the books of the hand's lanes that were opened at the court meanwhile."""
        for number in range(self._looked, self._court.lanes()):
            _, left, right, _, _, _ = self._court.stand(number)
            if self._hand in (left, right):
                side, peer = ("left", right) if self._hand == left else ("right", left)
                end = End(self._signs, side, (left, right), self._first_of(number))
                self.books[number] = LaneBook(number, side, peer, end)
        self._looked = self._court.lanes()

    def book_of(self, lane):
        """Tell the book of a lane. NoLane."""
        if not is_whole(lane) or lane not in self.books:
            raise NoLane("this is no lane of this hand")
        return self.books[lane]

    def is_open(self, book):
        """Tell whether a lane is open at the court."""
        return self._court.stand(book.number)[0] == "open"

    def is_settled(self, book):
        """Tell whether a lane is settled at the court."""
        return self._court.stand(book.number)[0] == "settled"

    def held(self):
        """Tell the locks of the hand's lanes that the court holds, as tuples (book, lock)."""
        return [(self.books[lane], lock) for lane, lock in self._court.held() if lane in self.books]

    def outdated(self):
        """Tell the newest states of the lanes that are closing with a state of a lesser number."""
        found = []
        for book in self.books.values():
            word, _, _, _, standing, _ = self._court.stand(book.number)
            if word == "closing" and standing[1] < book.end.newest()[1]:
                found.append(book.end.newest())
        return found

    def secrets_due(self):
        """Tell the secrets, by their seals, of the locks that are claimed and must be shown in this look."""
        found = {}
        for book, lock in self._at_stake():
            seal, last = lock[3:]
            # At the next look it may be too late for a lock whose last is below that look's turn.
            if last < self._court.now() + self._gap and self._court.shown(seal) is None and self.known.is_claimed(lock):
                found[seal] = self.known.secret_for(seal)
        return [found[seal] for seal in sorted(found)]

    def has_under(self, seal):
        """Tell whether a lock under this seal may count in a lane, a settled one too, or is held by the court."""
        states = [state for book in self.books.values() for state in book.end.may_count()]
        locks = [lock for state in states for lock in state[4]] + [lock for _, lock in self.held()]
        return any([lock[3] == seal for lock in locks])

    def takes(self, book, step):
        """Tell whether a step that the other side proposes, and that can be done, is to be taken."""
        word = step[0]
        if word in ("pay", "lock"):
            return step[1] != book.side
        if word == "pass":
            return True
        lock = lock_of(book.end.newest(), step[1])
        if word == "fold":
            return lock[1] != book.side or not self.known.is_dead(lock)
        return lock[1] == book.side or self.lets_go(book, lock)

    def lets_go(self, book, lock):
        """Tell whether a lock that the other side gave may go back to it, as far as was handed on for it by now."""
        if self.known.is_dead(lock):
            return True
        if self.known.is_claimed(lock):
            return False
        return lock[0] not in book.handed or self._is_over(book.handed[lock[0]])

    def will_hand_on(self, book, lock):
        """Tell whether a lock that the other side gave will be handed on."""
        hops = book.hops.get(lock[0], ())
        if len(hops) == 0 or lock[0] in book.handed or not self.is_open(book):
            return False
        if self.known.secret_for(lock[3]) is not None:
            return False
        # Where it doesn't count in each state it might be lost, and what was handed on with it.
        if not all([lock in state[4] for state in book.end.may_count()]):
            return False
        return hops[0][0] != book.number and self._has_means(lock, hops[0])

    def surely(self):
        """Tell what the hand surely has."""
        sure = self._court.purse(self._hand) + sum([self._sure_of(book, lock) for book, lock in self.held()])
        for book in self.books.values():
            if not self.is_settled(book):
                sure += min([self._sure_in(book, state) for state in book.end.may_count()])
        return sure

    def _first_of(self, number):
        """Tell the first state of a lane."""
        word, _, _, _, standing, _ = self._court.stand(number)
        if word == "open":
            return standing
        # Another state may stand for a lane that is closing: then the rows alone tell its coins.
        openings = [deed for deed, _ in self._court.rows() if deed[0] == "open"]
        _, _, _, left_coins, right_coins = openings[number]
        return first_state(number, left_coins, right_coins)

    def _at_stake(self):
        """Tell the locks that the other sides gave and about which the court may decide, as tuples (book, lock)."""
        found = [(book, lock) for book, lock in self.held() if lock[1] != book.side]
        for book in self.books.values():
            if not self.is_settled(book):
                found += [(book, lock) for state in book.end.may_count() for lock in book.locks_in(state)]
        return found

    def _has_means(self, lock, hop):
        """Tell whether a lock is enough for a hop, by amount and last, and the hop's lane can take it."""
        lane, amount, last = hop
        onward = self.books.get(lane)
        if onward is None or not self.is_open(onward) or len(onward.end.newest()[4]) >= MOST_LOCKS:
            return False
        if amount > onward.share() or amount + fee_for(self._fee, amount) > lock[2]:
            return False
        return self._court.now() < last and last + self._gap <= lock[4]

    def _is_over(self, handed):
        """Tell whether what was handed on, as a tuple (lane, lock), can be lost to this hand no more."""
        lane, lock = handed
        if self.known.is_dead(lock):
            return True
        return not self.books[lane].counts(lock) and handed not in self._court.held()

    def _sure_in(self, book, state):
        return share_of(state, book.side) + sum([self._sure_of(book, lock) for lock in state[4]])

    def _sure_of(self, book, lock):
        """Tell how much of a lock the hand surely gets, or gets back."""
        if lock[1] != book.side:
            return lock[2] if self.known.is_claimed(lock) else 0
        unlost = lock[0] in book.onward and self.known.secret_for(lock[3]) is None
        return lock[2] if unlost or self.known.is_dead(lock) else 0
