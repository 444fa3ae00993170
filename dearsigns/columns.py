"""The columns of a book: what begins and what ends at each price."""

from dearsigns.numbers import rising
from dearsigns.tongues import look_at_tongue
from dearsigns.words import reckon_price, reckon_way


def columns_of(tongue, book):
    """Tuples (price, begins, ends), by rising price."""
    look_at_tongue(tongue)
    begins = how_often([reckon_way(tongue, text) for text in begins_of(book)])
    ends = how_often([reckon_price(tongue, word) for word in book])
    prices = list(begins) + [price for price in ends if price not in begins]
    return [(price, begins.get(price, 0), ends.get(price, 0)) for price in rising(prices)]


def begins_of(book):
    """The texts that begin a word and aren't it, each once."""
    return list({word[:deep]: True for word in book for deep in range(len(word))})


def how_often(some):
    """How often each one stands in a list."""
    counts = {}
    for one in some:
        counts[one] = counts.get(one, 0) + 1
    return counts
