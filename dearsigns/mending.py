"""Mends: books that are cheap enough for new counts and change as few words of an elder book as can be."""

from dearsigns.binding import KeptSeats
from dearsigns.numbers import plus, under
from dearsigns.tongues import look_at_tongue
from dearsigns.wants import look_at_size, look_at_wants

MOST_THINGS_FREE = 5
MOST_THINGS_ORDERED = 7


def mend(tongue, wants, elder, slack, ordered):
    """A tuple (book, cost, changed), None where there is no book; TooMany of too many things."""
    look_at_tongue(tongue)
    look_at_wants(wants)
    look_at_mended_size(wants, ordered)
    texts = {number: text for number, text in enumerate(elder)}
    seats = KeptSeats(tongue, wants, texts, ordered)
    front = seats.whole_front()
    if not front:
        return None
    pair = first_within(seats, front, slack)
    book = seats.book_with(pair)
    changed = [number for number, word in enumerate(book) if word != texts.get(number)]
    return (book, seats.told_cost(pair), changed)


def first_within(seats, front, slack):
    """The pair of a front that keeps most within a slack of the least cost."""
    # What is kept and what it costs fall together, so the last pair is a cheapest book's.
    cheapest = front[-1]
    most = plus(seats.told_cost(cheapest), slack)
    within = [pair for pair in front[:-1] if not under(most, seats.told_cost(pair))]
    return within[0] if within else cheapest


def look_at_mended_size(wants, ordered):
    """None of few enough things for a mend, else TooMany."""
    look_at_size(wants, ordered, MOST_THINGS_FREE, MOST_THINGS_ORDERED)
