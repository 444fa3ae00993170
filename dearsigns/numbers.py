"""Whole numbers, fractions and names."""

from dearsigns.errors import NoNumber

LETTERS = "abcdefghijklmnopqrstuvwxyz"
LONGEST_NAME = 8
NOUGHT = (0, 1)


def is_whole(thing):
    """Whether it is a whole number."""
    return isinstance(thing, int) and not isinstance(thing, bool)


def is_whole_within(thing, least, most):
    """Whether it is a whole number from least to most."""
    return is_whole(thing) and least <= thing and thing <= most


def is_fraction(thing):
    """Whether it is a fraction in lowest terms."""
    if not isinstance(thing, tuple) or len(thing) != 2:
        return False
    top, bottom = thing
    if not is_whole(top) or not is_whole(bottom) or bottom < 1:
        return False
    return common_divisor(top, bottom) == 1


def is_from_nought(thing):
    """Whether it is a fraction from nought on."""
    return is_fraction(thing) and thing[0] >= 0


def is_above_nought(thing):
    """Whether it is a fraction above nought."""
    return is_fraction(thing) and thing[0] > 0


def is_name(thing):
    """Whether it is a text of one to eight small letters."""
    if not isinstance(thing, str) or thing == "" or len(thing) > LONGEST_NAME:
        return False
    return all(sign in LETTERS for sign in thing)


def is_letter(thing):
    """Whether it is a text of one small letter."""
    return is_name(thing) and len(thing) == 1


def common_divisor(one, other):
    """The greatest number that divides both; other is not 0."""
    one = abs(one)
    other = abs(other)
    while other > 0:
        one, other = other, one % other
    return one


def fraction(top, bottom=1):
    """The fraction top over bottom in lowest terms, or NoNumber."""
    if not is_whole(top) or not is_whole(bottom):
        raise NoNumber("a fraction is made of two whole numbers")
    if bottom == 0:
        raise NoNumber("a fraction's second number is not 0")
    shared = common_divisor(top, bottom)
    # A bottom below nought hands its sign on to the top.
    if bottom < 0:
        shared = -shared
    return (top // shared, bottom // shared)


def plus(one, other):
    """Both fractions together."""
    return fraction(one[0] * other[1] + other[0] * one[1], one[1] * other[1])


def minus(one, other):
    """The first fraction less the second one."""
    return fraction(one[0] * other[1] - other[0] * one[1], one[1] * other[1])


def times(one, other):
    """The first fraction multiplied by the second one."""
    return fraction(one[0] * other[0], one[1] * other[1])


def over(one, other):
    """The first fraction parted by the second one, or NoNumber by nought."""
    if other == NOUGHT:
        raise NoNumber("nothing is parted by nought")
    return fraction(one[0] * other[1], one[1] * other[0])


def under(one, other):
    """Whether the first fraction is less than the second one."""
    return one[0] * other[1] < other[0] * one[1]


def sum_of(some):
    """All fractions of a list together, nought of none."""
    total = NOUGHT
    for one in some:
        total = plus(total, one)
    return total


def rising(some):
    """The fractions of a list, the least first, in a new list."""
    bottom = shared_bottom(some)
    # Over one common bottom the tops have the order of the fractions.
    return sorted(some, key=lambda each: top_over(each, bottom))


def shared_bottom(some):
    """The least number that each fraction's bottom divides."""
    shared = 1
    for one in some:
        shared = shared * one[1] // common_divisor(shared, one[1])
    return shared


def top_over(one, bottom):
    """The fraction's top over another bottom, one that its own divides."""
    return one[0] * (bottom // one[1])
