"""A town: a court, signs, a keeper for each hand, and the letters that lie between them."""

from coinlanes.bounds import BOUND, FEE, GAP, WAIT
from coinlanes.courts import Court
from coinlanes.errors import Begun, CoinError, NoBill, NoHand, NoLetter, NoName, NoNumber, NotSigned, Twice
from coinlanes.keepers import Keeper, check_amount, check_gap, check_seal
from coinlanes.seals import is_name, seal_of
from coinlanes.signs import Signs
from coinlanes.states import is_positive, share_of
from coinlanes.ways import check_fee, find_way


class Doing:
    """One deed of a town in its trail, from its begin to its end, whatever refuses it."""

    def __init__(self, marks, deed):
        self.marks = marks
        self.deed = deed

    def __enter__(self):
        self.marks.append(("begun", self.deed))
        return self

    def __exit__(self, kind, value, trace):
        self.marks.append(("ended", self.deed))


class Town:
    """Let hands come, open lanes, bill, pay and give, and carry the letters of their keepers."""

    def __init__(self, *, wait=WAIT, gap=GAP, fee=FEE):
        self._court = Court(Signs(), wait=wait)
        check_gap(gap)
        check_fee(fee)
        self._gap = gap
        self._fee = fee
        self._keepers = {}
        # Whether anything but coming was done.
        self._begun = False
        # By seals: the hands that billed them, and True for those by which a hand paid.
        self._bills = {}
        self._paid = {}
        # By tuples (hand, other): the letters that lie from the one to the other; no list is empty.
        self._lying = {}
        self._marks = []

    def come(self, hand, *, coins=0):
        """A hand comes with coins. Begun, NoName, Twice, NoCoins."""
        with Doing(self._marks, "come"):
            if self._begun:
                raise Begun("no hand comes behind another deed")
            if not is_name(hand):
                raise NoName("a name is a text of one to eight small letters")
            if hand in self._keepers:
                raise Twice("the hand is there")
            # What are no coins the new court refuses.
            self._found(hand, coins)

    def lane(self, left, right, *, left_coins=0, right_coins=0):
        """Two hands open a lane; told is its number. NoHand, NoCoins."""
        with Doing(self._marks, "lane"):
            number = self._opened(left, right, left_coins, right_coins)
            self._begun = True
            return number

    def bill(self, hand, secret, *, amount=1):
        """A hand bills; told is the seal. NoHand, NoSecret, NoCoins, Twice."""
        with Doing(self._marks, "bill"):
            keeper = self._keeper(hand)
            seal = seal_of(secret)
            check_amount(amount)
            if seal in self._bills:
                raise Twice("a hand billed this seal before")
            keeper.bill(secret, amount=amount)
            self._bills[seal] = hand
            self._begun = True
            return seal

    def pay(self, payer, payee, *, seal, amount=1, bound=BOUND):
        """A hand pays another one by a seal; told is the way.

        NoHand, NoNumber, NoBill, Twice, NoCoins, NoNumber, NoWay, then as the keeper.
        """
        with Doing(self._marks, "pay"):
            self._check_pay(payer, payee, seal, amount, bound)
            way = find_way(self._net(), payer, payee, amount, {hand: self._fee for hand in self._keepers})
            self._put(payer, self._keepers[payer].pay(self._hops(way, bound), seal=seal))
            self._paid[seal] = True
            self._begun = True
            return way

    def give(self, hand, lane, amount):
        """A hand gives to the other side of a lane. NoHand, then as the keeper."""
        with Doing(self._marks, "give"):
            self._put(hand, self._keeper(hand).give(lane, amount))
            self._begun = True

    def step(self, hand, other):
        """The first letter from one hand to another is heard. NoHand, NoLetter."""
        with Doing(self._marks, "step"):
            self._keeper(hand)
            self._keeper(other)
            if (hand, other) not in self._lying:
                raise NoLetter("no letter lies from the one to the other")
            self._carry(hand, other)
            self._begun = True

    def rest(self):
        """Steps until no letter lies; told is how many."""
        with Doing(self._marks, "rest"):
            many = 0
            while len(self._lying) > 0:
                hand, other = min(self._lying)
                self._carry(hand, other)
                many += 1
            self._begun = True
            return many

    def turn(self):
        """A turn passes at the court, and all keepers wake."""
        with Doing(self._marks, "turn"):
            self._court.turn()
            for hand in self.hands():
                self._put(hand, self._keepers[hand].wake())
            self._begun = True

    def shut(self, hand, lane):
        """A hand shuts a lane. NoHand, then as the keeper."""
        with Doing(self._marks, "shut"):
            self._put(hand, self._keeper(hand).shut(lane))
            self._begun = True

    def hands(self):
        """Tell the hands, in order of names."""
        return sorted(self._keepers)

    def receipts(self, hand):
        """Tell the receipts of a hand. NoHand."""
        return self._keeper(hand).receipts()

    def lanes(self, hand):
        """Tell the lanes of a hand. NoHand."""
        return self._keeper(hand).lanes()

    def lying(self):
        """Tell what lies, by names, as tuples (hand, other, letters)."""
        return [(hand, other, list(self._lying[(hand, other)])) for hand, other in sorted(self._lying)]

    def trail(self):
        """Tell the trail: for each deed that was begun ("begun", word) and ("ended", word)."""
        return list(self._marks)

    def purse(self, hand):
        """Tell the purse of a hand. NoHand."""
        return self._court.purse(hand)

    def surely(self, hand):
        """Tell what a hand surely has. NoHand."""
        return self._keeper(hand).surely()

    def now(self):
        """Tell the court's turn."""
        return self._court.now()

    def told(self):
        """Tell how many states were told at the court."""
        return len([deed for deed, _ in self._court.rows() if deed[0] == "tell"])

    def inside(self):
        """Tell how many deeds are begun and not ended."""
        begun = [word for word, _ in self._marks if word == "begun"]
        return 2 * len(begun) - len(self._marks)

    def state(self, lane):
        """Tell the newest states of a lane at its left and at its right end, as a tuple. NoLane."""
        _, left, right, _, _, _ = self._court.stand(lane)
        return (self._keepers[left].newest(lane), self._keepers[right].newest(lane))

    def _keeper(self, hand):
        """Tell the keeper of a hand. NoHand."""
        if not is_name(hand) or hand not in self._keepers:
            raise NoHand("no such hand has come")
        return self._keepers[hand]

    def _found(self, hand, coins):
        """Make court, signs and keepers anew with one hand more: a court has its purses from its beginning on."""
        purses = [(other, self._court.purse(other)) for other in self._keepers]
        signs = Signs()
        court = Court(signs, wait=self._court.patience(), purses=(*purses, (hand, coins)))
        self._keepers = {other: Keeper(other, court, signs, gap=self._gap, fee=self._fee) for other in court.hands()}
        self._court = court

    def _opened(self, left, right, left_coins, right_coins):
        """Open a lane at the court, where both keepers agree to what the court would not refuse."""
        try:
            return self._court.lane(left, right, left_coins=left_coins, right_coins=right_coins)
        except NotSigned:
            # The court asks for the signs behind all else: only they are missing now.
            paper = ("open", self._court.lanes(), left, right, left_coins, right_coins)
        self._keepers[left].agree(paper)
        self._keepers[right].agree(paper)
        return self._court.lane(left, right, left_coins=left_coins, right_coins=right_coins)

    def _check_pay(self, payer, payee, seal, amount, bound):
        """NoHand, NoNumber, NoBill, Twice, NoCoins, NoNumber."""
        self._keeper(payer)
        self._keeper(payee)
        if payer == payee:
            raise NoHand("the payer and the payee are one")
        check_seal(seal)
        if self._bills.get(seal) != payee:
            raise NoBill("the payee did not bill this seal")
        if seal in self._paid:
            raise Twice("a hand paid by this seal before")
        check_amount(amount)
        if not is_positive(bound):
            raise NoNumber("a bound is a whole number from 1 on")

    def _net(self):
        """Tell the net of the lanes that are open, each side's room its share at its own end."""
        net = []
        for lane in range(self._court.lanes()):
            word, left, right, _, _, _ = self._court.stand(lane)
            if word == "open":
                left_end, right_end = self.state(lane)
                net.append((lane, left, right, share_of(left_end, "left"), share_of(right_end, "right")))
        return net

    def _hops(self, way, bound):
        """Tell the hops of a way: each lock has the gap of turns more than the one behind it."""
        last = self._court.now() + bound + self._gap * len(way)
        return tuple([(lane, amount, last - self._gap * place) for place, (lane, _, amount) in enumerate(way, start=1)])

    def _put(self, hand, letters):
        """Lay what the keeper of a hand puts out behind what lies from it."""
        for other, letter in letters:
            self._lying.setdefault((hand, other), []).append(letter)

    def _carry(self, hand, other):
        """Let a hand hear the first letter that lies from another one to it."""
        letter = self._lying[(hand, other)].pop(0)
        if len(self._lying[(hand, other)]) == 0:
            del self._lying[(hand, other)]
        try:
            letters = self._keepers[other].hear(hand, letter)
        except CoinError:
            # A letter that is refused is gone, and the deed goes on.
            letters = []
        self._put(other, letters)
