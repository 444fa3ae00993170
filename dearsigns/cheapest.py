"""The cheapest book, free or ordered, with floors that claim what it costs."""

from dearsigns.numbers import fraction
from dearsigns.seats import Seats, things_of
from dearsigns.tongues import look_at_tongue
from dearsigns.wants import look_at_size, look_at_wants

MOST_THINGS_FREE = 6
MOST_THINGS_ORDERED = 12


def cheapest_book(tongue, wants, ordered):
    """A tuple (book, cost, floors), book and cost None where there is no book; TooMany of too many things."""
    look_at_tongue(tongue)
    look_at_wants(wants)
    look_at_size(wants, ordered, MOST_THINGS_FREE, MOST_THINGS_ORDERED)
    seats = Seats(tongue, wants, ordered)
    return (book_from(seats), as_told(seats, seats.whole_cost()), told_floors(seats))


def least_price(tongue):
    """The least price of a word of a tongue that was looked at, None where it has none."""
    # One thing that is wanted once costs just what its word does, and no word is gone through for it.
    seats = Seats(tongue, [("any", 1)], True)
    return as_told(seats, seats.whole_cost())


def book_from(seats):
    """A cheapest book, None where there is none."""
    if seats.whole_cost() is None:
        return None
    words = {}
    put_words(seats, "", seats.everything, words)
    return [words[number] for number in things_of(seats.everything)]


def told_floors(seats):
    """The least costs of all seats, as floors."""
    things = {mask: things_of(mask) for mask in seats.partings}
    return {(sign, deep, start, things[mask]): as_told(seats, costs[mask])
            for (sign, deep, start), costs in seats.costs.items() for mask in costs}


def as_told(seats, cost):
    """The fraction that a seat's cost is, None of None."""
    return None if cost is None else fraction(cost, seats.bottom)


def put_words(seats, text, mask, words):
    """Puts cheapest words that begin with the text into words, by their things' numbers."""
    sign = text[-1:]
    deep = len(text)
    rest = mask
    for number, comer in enumerate(seats.signs):
        if rest == 0:
            return
        taken, rest = seats.cheapest_parting(sign, deep, number, rest)
        if taken == 0:
            continue
        if seats.end_cost(number, taken) == seats.takes[(number, deep)][taken]:
            words[taken.bit_length() - 1] = text + comer
        else:
            put_words(seats, text + comer, taken, words)
