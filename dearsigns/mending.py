"""Mends: books that are cheap enough for new counts and change as few words of an elder book as can be."""

from dearsigns.binding import KeptSeats
from dearsigns.numbers import plus, under
from dearsigns.tongues import look_at_tongue
from dearsigns.wants import look_at_size, look_at_wants

MOST_THINGS_FREE = 5
MOST_THINGS_ORDERED = 7


def mend(tongue, wants, elder, slack, ordered):
    """A tuple (book, cost, changed), None where there is no book; TooMany of too many things."""
    look_at_tongue(tongue)
    look_at_wants(wants)
    look_at_mended_size(wants, ordered)
    texts = {number: text for number, text in enumerate(elder)}
    seats = KeptSeats(tongue, wants, texts, ordered)
    front = seats.whole_front()
    if not front:
        return None
    # Pairs fall in what is kept and in cost, so the last one is a cheapest book's, and the first within is the mend's.
    most = plus(seats.told_cost(front[-1]), slack)
    pair = [pair for pair in front if not under(most, seats.told_cost(pair))][0]
    book = seats.book_with(pair)
    changed = [number for number, word in enumerate(book) if word != texts.get(number)]
    return (book, seats.told_cost(pair), changed)


def look_at_mended_size(wants, ordered):
    """None of few enough things for a mend, else TooMany."""
    look_at_size(wants, ordered, MOST_THINGS_FREE, MOST_THINGS_ORDERED)
