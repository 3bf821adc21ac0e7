"""Numbers, and the six deeds that are done with two of them."""

from boxwright.errors import ByNought

HALF = 2147483648

WORDS = ("sum", "less", "times", "part", "below", "alike")


def is_number(thing):
    # True and False are of the kind int, yet no numbers here.
    if not isinstance(thing, int) or isinstance(thing, bool):
        return False
    return -HALF <= thing < HALF


def fit(number):
    return (number + HALF) % (2 * HALF) - HALF


def parted(one, other):
    if other == 0:
        raise ByNought("part by nought")
    return fit(one // other)


def reckoned(word, one, other):
    if word == "sum":
        return fit(one + other)
    if word == "less":
        return fit(one - other)
    if word == "times":
        return fit(one * other)
    if word == "part":
        return parted(one, other)
    if word == "below":
        return 1 if one < other else 0
    return 1 if one == other else 0
