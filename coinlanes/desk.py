"""A desk: a town that is spoken to in rows of words."""

from coinlanes.errors import NoRow
from coinlanes.seals import is_name
from coinlanes.texts import in_words, is_figures, show_state, with_colons
from coinlanes.towns import Town

# What each word of a row is behind the first one: "n" a name, "0" a number.
FORMS = {
    "town": "0000",
    "come": "n0",
    "lane": "nn00",
    "bill": "n00",
    "pay": "nn000",
    "give": "n00",
    "step": "nn",
    "rest": "",
    "turn": "",
    "shut": "n0",
    "purse": "n",
    "sure": "n",
    "now": "",
    "lie": "",
    "state": "0",
    "receipts": "n",
    "hands": "",
}


def parts_of(row):
    """Tell the words of a row, those that write numbers as numbers. NoRow."""
    words = row.split(" ") if isinstance(row, str) else [""]
    form = FORMS.get(words[0])
    if form is None or len(form) != len(words) - 1:
        raise NoRow("this is no row of words")
    return [words[0], *[part_of(kind, word) for kind, word in zip(form, words[1:])]]


def part_of(kind, word):
    """Tell the name or the number that a word writes. NoRow."""
    if kind == "n" and is_name(word):
        return word
    if kind == "0" and is_figures(word):
        return int(word)
    raise NoRow("a name has one to eight small letters, a number one to fifteen figures")


def or_none(words):
    """Tell the words with blanks between; none where there are none."""
    return in_words(words) if words else "none"


def deed_done(town, parts):
    """Do the deed of a row; told is the answer, None where the row is no deed's. As the town refuses."""
    match parts:
        case ["come", hand, coins]:
            town.come(hand, coins=coins)
        case ["lane", left, right, left_coins, right_coins]:
            return str(town.lane(left, right, left_coins=left_coins, right_coins=right_coins))
        case ["bill", hand, secret, amount]:
            return str(town.bill(hand, secret, amount=amount))
        case ["pay", payer, payee, seal, amount, bound]:
            way = town.pay(payer, payee, seal=seal, amount=amount, bound=bound)
            return in_words([f"{number}:{due}" for number, _, due in way])
        case ["give", hand, lane, amount]:
            town.give(hand, lane, amount)
        case ["step", hand, other]:
            town.step(hand, other)
        case ["rest"]:
            return str(town.rest())
        case ["turn"]:
            town.turn()
        case ["shut", hand, lane]:
            town.shut(hand, lane)
        case _:
            return None
    return "ok"


def telling(town, parts):
    """Tell what a row that is no deed's asks for. As the town refuses."""
    match parts:
        case ["purse", hand]:
            return str(town.purse(hand))
        case ["sure", hand]:
            return str(town.surely(hand))
        case ["now"]:
            return str(town.now())
        case ["lie"]:
            return str(sum([len(letters) for _, _, letters in town.lying()]))
        case ["state", lane]:
            return " | ".join([show_state(state) for state in town.state(lane)])
        case ["receipts", hand]:
            return or_none([with_colons(receipt) for receipt in town.receipts(hand)])
    return or_none(town.hands())


class Desk:
    """Keep a town, and answer rows of words."""

    def __init__(self):
        self._town = Town()

    def say(self, row):
        """Answer a row. NoRow, then as the town refuses."""
        parts = parts_of(row)
        if parts[0] == "town":
            _, wait, gap, flat, share = parts
            self._town = Town(wait=wait, gap=gap, fee=(flat, share))
            return "ok"
        answer = deed_done(self._town, parts)
        return telling(self._town, parts) if answer is None else answer
