"""What several tests hand in: things of all kinds, most of which are of none that is due."""

GREATEST = 999999999999999
FORTY = 10 ** 39 + 7


def nested(depth, leaf=()):
    thing = leaf
    for _ in range(depth):
        thing = [thing]
    return thing


def nested_tuples(depth):
    thing = ()
    for _ in range(depth):
        thing = (thing,)
    return thing


class Plain:
    """An object of no kind that the program knows."""


NO_NUMBERS = [
    None, True, False, "", "0", "1", "7", "left", b"1", b"", (), (1,), [], [1], {}, {1: 1}, {1}, set(),
    frozenset(), nested(20), nested_tuples(20), Plain(), Plain, len, [1] * 200, object(),
]
BELOW_0 = [-1, -2, -GREATEST, -10 ** 5000]
NO_WHOLE = NO_NUMBERS + BELOW_0
NO_POSITIVE = NO_WHOLE + [0]
NO_SIDES = NO_WHOLE + [
    0, 1, 2, "Left", "left ", " left", "lef", "leftt", "LEFT", "Right", "right ", "l", "both", "left\n", b"left",
    ["left"], ("left",), ("left", "right"), {"left": 1}, "leftright", "lft",
]
NO_NAMES = [thing for thing in NO_WHOLE if thing != "left"] + [
    0, 1, GREATEST, "Anna", "anna ", " anna", "ann a", "abcdefghi", "anna1", "anna\n", b"anna", ["anna"], ("anna",),
    {"anna": 1}, "x" * 2000, ["anna", "bert"],
]
ANY = NO_WHOLE + NO_NAMES + NO_SIDES + [GREATEST, FORTY, 10 ** 5000, "anna", "x" * 2000, list("anna") * 50]


def with_part(whole, place, part):
    """The tuple with another part at a place."""
    return whole[:place] + (part,) + whole[place + 1:]


def exchanged(whole, one, other):
    parts = list(whole)
    parts[one], parts[other] = parts[other], parts[one]
    return tuple(parts)
