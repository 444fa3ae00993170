"""Tongues, texts, books and wants called otherwise: other letters, another order, other prices and counts."""

from dearsigns.books import put_in_places
from dearsigns.errors import NoTurn
from dearsigns.numbers import is_above_nought, is_letter, is_whole_within, times
from dearsigns.tongues import look_at_tongue, signs_of
from dearsigns.wants import is_count, look_at_wants

MOST_FACTOR = 1000


def turned_tongue(tongue, letters):
    """The tongue with its signs called by the letters; NoTurn."""
    calls = calls_by(tongue, letters)
    signs, firsts, pairs, longest = tongue
    return ([(calls[sign], price, last) for sign, price, last in signs], [calls[sign] for sign in firsts],
            [called(calls, pair) for pair in pairs], longest)


def turned_text(tongue, letters, text):
    """The text with its signs called by the letters; NoTurn."""
    return called(calls_by(tongue, letters), text)


def turned_book(tongue, letters, book):
    """The book with the signs of its words called by the letters; NoTurn."""
    calls = calls_by(tongue, letters)
    return [called(calls, word) for word in book]


def put_wants(wants, order):
    """The wants in another order; NoTurn."""
    look_at_wants(wants)
    look_at_order(len(wants), order)
    return put_in_places(wants, order)


def put_book(book, order):
    """The book in another order; NoTurn."""
    look_at_order(len(book), order)
    return put_in_places(book, order)


def dearer(tongue, factor):
    """The tongue with all prices and lasts multiplied by a factor; NoTurn."""
    look_at_tongue(tongue)
    if not is_above_nought(factor):
        raise NoTurn("a factor of prices is a fraction above nought")
    signs, firsts, pairs, longest = tongue
    return ([(sign, times(price, factor), None if last is None else times(last, factor))
             for sign, price, last in signs], list(firsts), list(pairs), longest)


def more_often(wants, factor):
    """The wants with all counts multiplied by a factor; NoTurn."""
    look_at_wants(wants)
    if not is_whole_within(factor, 1, MOST_FACTOR):
        raise NoTurn("a factor of counts is a whole number from 1 to 1000")
    more = [(name, count * factor) for name, count in wants]
    if not all(is_count(count) for name, count in more):
        raise NoTurn("a count would be above 10 ** 9")
    return more


def calls_by(tongue, letters):
    """How each sign is called by the letters; NoTongue, then NoTurn."""
    look_at_tongue(tongue)
    signs = signs_of(tongue)
    if not isinstance(letters, list) or len(letters) != len(signs) or not all(is_letter(one) for one in letters):
        raise NoTurn("letters are a list of as many small letters as there are signs")
    if len(set(letters)) != len(letters):
        raise NoTurn("no two letters are alike")
    return {sign: letter for sign, letter in zip(signs, letters)}


def called(calls, text):
    """The text with its signs called so."""
    return "".join([calls[sign] for sign in text])


def look_at_order(many, thing):
    """None of an order of so many things, else NoTurn."""
    if not isinstance(thing, list) or len(thing) != many or not all(is_whole_within(one, 0, many - 1) for one in thing):
        raise NoTurn("an order is a list of as many numbers as there are things")
    if len(set(thing)) != many:
        raise NoTurn("each number stands once in an order")
