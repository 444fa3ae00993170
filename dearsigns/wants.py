"""Wants: things with names and counts."""

from dearsigns.errors import NoWants, TooMany
from dearsigns.numbers import is_name, is_whole_within

MOST_THINGS = 20
MOST_COUNT = 10 ** 9


def look_at_wants(thing):
    """None of wants, else NoWants with the number of the first thing that can't stand there."""
    if not isinstance(thing, list) or len(thing) < 1 or len(thing) > MOST_THINGS:
        raise NoWants(None)
    names = set()
    for number, want in enumerate(thing):
        if not is_want(want) or want[0] in names:
            raise NoWants(number)
        names.add(want[0])


def is_want(thing):
    """Whether it is a tuple of a name and a count."""
    if not isinstance(thing, tuple) or len(thing) != 2:
        return False
    return is_name(thing[0]) and is_count(thing[1])


def is_count(thing):
    """Whether it is a count of a thing."""
    return is_whole_within(thing, 0, MOST_COUNT)


def with_count(wants, number, count):
    """The wants, in a new list, with another count for the thing of this number."""
    return [(name, count if place == number else old) for place, (name, old) in enumerate(wants)]


def look_at_size(wants, ordered, most, most_ordered):
    """None of at most so many things, free or ordered, else TooMany."""
    allowed = most_ordered if ordered else most
    if len(wants) > allowed:
        raise TooMany(f"there are more than {allowed} things")
