"""A keeper plays for a hand: it signs, answers, hands on, and watches the court."""

from coinlanes.bounds import FEE, GAP
from coinlanes.errors import (
    CoinError, NoCoins, NoHand, NoHops, NoLetter, NoName, NoNumber, NoPaper, NoStep, NotYours, Old, Settled, Twice)
from coinlanes.letters import are_hops, is_letter
from coinlanes.seals import is_name, is_whole, seal_of
from coinlanes.signs import is_opening
from coinlanes.states import MOST_LOCKS, is_positive, lock_of
from coinlanes.views import View
from coinlanes.wants import Want
from coinlanes.ways import check_fee

MOST_GAP = 50


def check_gap(thing):
    """Refuse what is no gap with NoNumber."""
    if not is_positive(thing) or thing > MOST_GAP:
        raise NoNumber("a gap is a whole number from 1 to 50")


def check_amount(thing):
    """Refuse what is no amount with NoCoins."""
    if not is_positive(thing):
        raise NoCoins("an amount is a whole number from 1 on")


def check_seal(thing):
    """Refuse what is no seal with NoNumber."""
    if not is_whole(thing):
        raise NoNumber("a seal is a whole number from 0 on")


class Keeper:
    """Keep one hand's ends of its lanes, and act for the hand at each look."""

    def __init__(self, name, court, signs, *, gap=GAP, fee=FEE):
        if not is_name(name):
            raise NoName("a name is a text of one to eight small letters")
        if name not in court.hands():
            raise NoHand("the hand has no purse at the court")
        check_gap(gap)
        check_fee(fee)
        self._name = name
        self._court = court
        self._signs = signs
        self._view = View(name, court, signs, gap, fee)
        # What waits to be paid or given: tuples (lane, step, more).
        self._waits = []
        # The seals by which it ever paid, each with True, and the amounts of the pays proposed.
        self._seals = {}
        self._paid = {}

    def agree(self, paper):
        """Sign an opening paper. NoPaper, NotYours."""
        if not is_opening(paper):
            raise NoPaper("this is no opening paper")
        if self._name not in paper[2:4]:
            raise NotYours("the name does not stand in the paper")
        self._signs.sign(self._name, paper)

    def wake(self):
        """Look; told are tuples (hand, letter)."""
        self._view.catch_up()
        return self._look([])

    def hear(self, hand, letter):
        """Hear a letter, and look; told are tuples (hand, letter). NoLetter, then as an End refuses, then NoStep."""
        self._view.catch_up()
        try:
            answers = self._answer(hand, letter)
        except CoinError:
            # Bad letters must not keep it from watching the court.
            self._watch()
            raise
        return self._look(answers)

    def bill(self, secret, *, amount=1):
        """Want to be paid at least this amount by the seal of a secret; told is the seal. NoSecret, NoCoins, Twice."""
        self._view.catch_up()
        seal = seal_of(secret)
        check_amount(amount)
        if self._view.known.secret_for(seal) is not None or self._view.has_under(seal):
            raise Twice("the secret is known, or a lock is under its seal")
        self._view.known.note_bill(secret, amount)
        return seal

    def pay(self, hops, *, seal):
        """Want to pay along hops by a seal, and look. NoHops, NoNumber, Twice, NoLane, Settled, Old, NoCoins."""
        self._view.catch_up()
        if not are_hops(hops) or len(hops) == 0:
            raise NoHops("hops are a tuple of tuples (lane, amount, last)")
        check_seal(seal)
        if seal in self._seals:
            raise Twice("it paid by this seal before")
        lane, amount, last = hops[0]
        book = self._view.book_of(lane)
        self._check_open(book)
        if last <= self._court.now():
            raise Old("the last turn is not above this turn")
        self._check_left(book, amount)
        self._seals[seal] = True
        self._waits.append((lane, ("lock", book.side, amount, seal, last), hops[1:]))
        return self._look([])

    def give(self, lane, amount):
        """Want to pay an amount to the other side, and look. NoLane, NoCoins, Settled, NoCoins."""
        self._view.catch_up()
        book = self._view.book_of(lane)
        check_amount(amount)
        self._check_open(book)
        self._check_left(book, amount)
        self._waits.append((lane, ("pay", book.side, amount), ()))
        return self._look([])

    def shut(self, lane):
        """Tell the newest state of a lane at the court, and look. NoLane, Settled, Old."""
        self._view.catch_up()
        self._court.tell(self._view.book_of(lane).end.newest())
        return self._look([])

    def name(self):
        """Tell its name."""
        return self._name

    def lanes(self):
        """Tell its lanes, rising."""
        self._view.catch_up()
        return list(self._view.books)

    def newest(self, lane):
        """Tell the newest state of a lane. NoLane."""
        self._view.catch_up()
        return self._view.book_of(lane).end.newest()

    def pending(self, lane):
        """Tell the pending state of a lane, or None. NoLane."""
        self._view.catch_up()
        return self._view.book_of(lane).end.pending()

    def secret(self, seal):
        """Tell the secret of a seal, or None where it does not know it. NoNumber."""
        return self._view.known.secret_for(seal)

    def receipts(self):
        """Tell tuples (seal, secret, amount), by seals, of the pays proposed whose secrets it knows."""
        rows = [(seal, self._view.known.secret_for(seal), self._paid[seal]) for seal in sorted(self._paid)]
        return [row for row in rows if row[1] is not None]

    def waiting(self):
        """Tell how many pays and gifts wait."""
        return len(self._waits)

    def surely(self):
        """Tell what it surely has."""
        self._view.catch_up()
        return self._view.surely()

    def _check_open(self, book):
        """Refuse with Settled what is to be done on a lane that is not open at the court."""
        if not self._view.is_open(book):
            raise Settled("the lane is not open at the court")

    def _check_left(self, book, amount):
        """Refuse with NoCoins an amount that is not left beside what waits."""
        waits = sum([step[2] for lane, step, _ in self._waits if lane == book.number])
        if book.share() - waits < amount:
            raise NoCoins("there is less than this amount beside what waits")

    def _answer(self, hand, letter):
        """Do what a letter asks for; told is a done, if any. NoLetter, then as an End refuses, then NoStep."""
        if not is_letter(letter) or not is_name(hand) or letter[1] not in self._view.books:
            raise NoLetter("this is no letter for a lane of this hand")
        book = self._view.books[letter[1]]
        if book.peer != hand or not self._view.is_open(book):
            raise NoLetter("the lane does not lead to that hand, or is not open")
        if letter[0] == "next":
            return [(hand, self._take(book, letter))]
        if letter[0] == "done":
            book.end.done(letter)
        else:
            book.asked = book.end.newest()[1]
        return []

    def _take(self, book, letter):
        """Take a proposal; told is the done. As an End refuses, then NoStep."""
        state = book.end.look(letter)
        _, _, _, step, more = letter
        if not self._view.takes(book, step):
            raise NoStep("this hand does not take such a step now")
        if step[0] == "fold":
            self._view.known.learn(step[2])
        if step[0] == "lock":
            book.hops[state[1]] = more
        return book.end.take(letter)

    def _watch(self):
        """Tell the court newer states of closing lanes, then show it what would soon be too late."""
        for state in self._view.outdated():
            self._court.tell(state)
        for secret in self._view.secrets_due():
            self._court.show(secret)

    def _look(self, answers):
        """Watch the court, then propose what is wanted; told are the answers and behind them what is put out."""
        self._watch()
        self._waits = [wait for wait in self._waits if self._still_waits(wait)]
        comers = self._comers()
        letters = list(answers)
        for book in self._view.books.values():
            if self._view.is_open(book) and book.end.pending() is None:
                letters += [(book.peer, letter) for letter in self._letters_for(book, comers.get(book.number, []))]
        return letters

    def _still_waits(self, wait):
        """Tell whether a pay or gift waits on, and is not to be forgotten."""
        lane, step, _ = wait
        book = self._view.books[lane]
        if step[0] == "lock" and step[4] <= self._court.now():
            return False
        return self._view.is_open(book) and step[2] <= book.share()

    def _comers(self):
        """Tell, by the lanes on which they will be handed on, the locks that came, as tuples (book, lock)."""
        found = {}
        for book in self._view.books.values():
            for lock in book.locks_in(book.end.newest()):
                if self._view.will_hand_on(book, lock):
                    lane = book.hops[lock[0]][0][0]
                    found.setdefault(lane, []).append((book, lock))
        return found

    def _letters_for(self, book, comers):
        """Tell what is put out on an open lane where nothing is pending: a proposal, a turn or nothing."""
        want = self._want(book, comers)
        number = book.end.newest()[1]
        if not book.end.proposes():
            if want is None or book.asking == number:
                return []
            book.asking = number
            return [("turn", book.number)]
        if want is None and book.asked == number:
            want = Want(("pass",))
        return [] if want is None else [self._propose(book, want)]

    def _want(self, book, comers):
        """Tell what is wanted on a lane, a pass aside, or None."""
        newest = book.end.newest()
        for lock in book.locks_in(newest):
            if self._view.known.is_claimed(lock):
                return Want(("fold", lock[0], self._view.known.secret_for(lock[3])))
            if self._view.lets_go(book, lock) and not self._view.will_hand_on(book, lock):
                return Want(("drop", lock[0]))
        if len(comers) > 0:
            return self._handing_on(book, comers[0])
        for wait in self._waits:
            lane, step, more = wait
            if lane == book.number and (step[0] == "pay" or len(newest[4]) < MOST_LOCKS):
                return Want(step, more=more, wait=wait)
        for lock in book.locks_out(newest):
            if self._view.known.is_dead(lock):
                return Want(("drop", lock[0]))
        return None

    def _handing_on(self, book, comer):
        """Tell the want to hand on a lock that came, a tuple (book, lock)."""
        source, lock = comer
        hops = source.hops[lock[0]]
        _, amount, last = hops[0]
        return Want(("lock", book.side, amount, lock[3], last), more=hops[1:], comer=comer)

    def _propose(self, book, want):
        """Propose what is wanted, and note what comes of it; told is the letter."""
        letter = book.end.propose(want.what, more=want.more)
        if want.comer is not None:
            source, came = want.comer
            given = lock_of(book.end.pending(), letter[2])
            source.handed[came[0]] = (book.number, given)
            book.onward[given[0]] = True
        if want.wait is not None:
            self._waits.remove(want.wait)
            if want.what[0] == "lock":
                self._paid[want.what[3]] = want.what[2]
        return letter
