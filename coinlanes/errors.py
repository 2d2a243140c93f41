"""The refusals: one error class for each kind, all of them straight under CoinError."""


class CoinError(ValueError):
    """Any refusal, made with one text, which str tells."""


class NoName(CoinError):
    """What is handed in is no name that may stand here."""


class NoSecret(CoinError):
    """What is handed in is no secret."""


class NoNumber(CoinError):
    """What is handed in is no whole number that may stand here."""


class NoCoins(CoinError):
    """What is handed in are no coins, or more than there are."""


class NoState(CoinError):
    """What is handed in is no state of a lane."""


class NoStep(CoinError):
    """What is handed in is no step, or none that may be done now."""


class NoPaper(CoinError):
    """What is handed in is no paper."""


class NoHand(CoinError):
    """There is no such hand."""


class NoLane(CoinError):
    """There is no such lane."""


class NotSigned(CoinError):
    """A sign that is due is missing."""


class Settled(CoinError):
    """The lane is settled, or not open any more."""


class Old(CoinError):
    """What is told is not newer than what stands."""


class NotYours(CoinError):
    """This is another one's to do."""


class Waiting(CoinError):
    """A state is pending."""


class NoLetter(CoinError):
    """There is no such letter, or it is none that may be heard now."""


class NoNet(CoinError):
    """What is handed in is no net of lanes."""


class NoFees(CoinError):
    """What is handed in are no fees."""


class NoWay(CoinError):
    """No way leads from the payer to the payee."""


class NoHops(CoinError):
    """What is handed in are no hops."""


class Twice(CoinError):
    """This was done before, and is done once only."""


class Begun(CoinError):
    """The town has begun: no hand comes any more."""


class NoBill(CoinError):
    """The payee did not bill this seal."""


class NoDeed(CoinError):
    """What is handed in is no court deed."""


class NoText(CoinError):
    """The text is the writing of nothing that is due here."""


class NoRow(CoinError):
    """What is handed in is no row of words."""


class Stuck(CoinError):
    """The deed at a place among others is refused, with the word of its refusal."""

    def __init__(self, place, word):
        super().__init__(f"{place} {word}")
        self.place = place
        self.word = word
