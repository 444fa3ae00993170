"""Books: what is wrong with one, and what one costs."""

from dearsigns.numbers import fraction, sum_of, times
from dearsigns.tongues import look_at_tongue, signs_of
from dearsigns.wants import look_at_wants
from dearsigns.words import reckon_price, stands_as_word


def comes_ahead(tongue, one, other):
    """Whether a word comes ahead of another one, neither of which begins the other."""
    look_at_tongue(tongue)
    return is_ahead(signs_of(tongue), one, other)


def what_is_wrong(tongue, wants, thing, ordered=False):
    """The first of what is wrong with anything as a book for the wants, else None."""
    look_at_tongue(tongue)
    look_at_wants(wants)
    if not are_texts(len(wants), thing):
        return ("form",)
    for number, text in enumerate(thing):
        if not stands_as_word(tongue, text):
            return ("word", number)
    clash = first_clash(thing)
    if clash is not None:
        return ("begins", clash[0], clash[1])
    if ordered:
        return first_unordered(signs_of(tongue), thing)
    return None


def cost_of(tongue, wants, book):
    """The counts times the prices of their words, together."""
    look_at_tongue(tongue)
    look_at_wants(wants)
    return sum_of([times(fraction(want[1]), reckon_price(tongue, word)) for want, word in zip(wants, book)])


def are_texts(many, thing):
    """Whether it is a list of so many texts."""
    if not isinstance(thing, list) or len(thing) != many:
        return False
    return all(isinstance(text, str) for text in thing)


def first_clash(texts):
    """The least k, then the least l, such that text k begins text l; None where there is none."""
    for number, text in enumerate(texts):
        for other, longer in enumerate(texts):
            if number != other and longer.startswith(text):
                return (number, other)
    return None


def first_unordered(signs, book):
    """("order", k) of the first word that doesn't come ahead of the next one, else None."""
    for number in range(len(book) - 1):
        if not is_ahead(signs, book[number], book[number + 1]):
            return ("order", number)
    return None


def is_ahead(signs, one, other):
    """Whether the first sign that is unlike is earlier in the first word than in the second one."""
    for sign, against in zip(one, other):
        if sign != against:
            return signs.index(sign) < signs.index(against)
    return False


def put_in_places(some, places):
    """The things of a list in a new one, each at the place that is told for it."""
    by_place = {place: one for place, one in zip(places, some)}
    return [by_place[place] for place in range(len(some))]
