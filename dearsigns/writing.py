"""Plain books, and rows of things written with them."""

from dearsigns.books import first_clash
from dearsigns.errors import NoBook, NoThing
from dearsigns.numbers import is_name, is_whole_within
from dearsigns.wants import MOST_THINGS


def write_row(book, row):
    """The words of a row of things, one behind the other; NoBook, then NoThing."""
    look_at_plain_book(book)
    if not isinstance(row, list):
        raise NoThing(None)
    for place, number in enumerate(row):
        if not is_whole_within(number, 0, len(book) - 1):
            raise NoThing(place)
    return "".join([book[number] for number in row])


def look_at_plain_book(thing):
    """None of a plain book, else NoBook."""
    if not isinstance(thing, list) or len(thing) < 1 or len(thing) > MOST_THINGS:
        raise NoBook("a plain book is a list of one to twenty words")
    # A word of a plain book is made just as a name is.
    if not all(is_name(word) for word in thing):
        raise NoBook("a word is a text of one to eight small letters")
    if first_clash(thing) is not None:
        raise NoBook("a word begins another one")
