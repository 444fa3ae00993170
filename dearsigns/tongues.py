"""Tongues: what is one, and what its signs are."""

from dearsigns.errors import NoTongue
from dearsigns.numbers import is_above_nought, is_letter, is_whole_within

FEWEST_SIGNS = 2
MOST_SIGNS = 6
LONGEST_WORD = 8


def look_at_tongue(thing):
    """None of a tongue, else NoTongue with the first part that is wrong."""
    if not isinstance(thing, tuple) or len(thing) != 4:
        raise NoTongue(None)
    signs, firsts, pairs, longest = thing
    if not are_signs(signs):
        raise NoTongue("signs")
    letters = signs_of(thing)
    if not are_unlike_texts_of(letters, firsts):
        raise NoTongue("firsts")
    if not are_unlike_texts_of([one + other for one in letters for other in letters], pairs):
        raise NoTongue("pairs")
    if not is_whole_within(longest, 1, LONGEST_WORD):
        raise NoTongue("longest")


def are_signs(thing):
    """Whether it is a list of two to six signs with their prices, no sign twice."""
    if not isinstance(thing, list) or len(thing) < FEWEST_SIGNS or len(thing) > MOST_SIGNS:
        return False
    if not all(is_sign_row(row) for row in thing):
        return False
    return len({row[0] for row in thing}) == len(thing)


def is_sign_row(thing):
    """Whether it is a tuple of a small letter, a price, and a last or None."""
    if not isinstance(thing, tuple) or len(thing) != 3:
        return False
    sign, price, last = thing
    return is_letter(sign) and is_above_nought(price) and (last is None or is_above_nought(last))


def are_unlike_texts_of(choices, thing):
    """Whether it is a list of some of the choices, each at most once."""
    if not isinstance(thing, list):
        return False
    seen = set()
    for text in thing:
        if not isinstance(text, str) or text not in choices or text in seen:
            return False
        seen.add(text)
    return True


def signs_of(tongue):
    """The signs of a tongue, in their order."""
    return [row[0] for row in tongue[0]]


def own_tongue(tongue):
    """The same tongue with lists of its own."""
    signs, firsts, pairs, longest = tongue
    return (list(signs), list(firsts), list(pairs), longest)
