"""Texts read to rows of things, at once or sign after sign."""

from dearsigns.columns import begins_of
from dearsigns.errors import BadSign
from dearsigns.writing import look_at_plain_book


class Reader:
    """Reads words of a plain book, told sign after sign."""

    def __init__(self, book):
        look_at_plain_book(book)
        self.numbers = {word: number for number, word in enumerate(book)}
        self.comers = {begin: signs_behind(book, begin) for begin in begins_of(book)}
        self.behind = ""
        self.taken = 0

    def put_sign(self, sign):
        """The number of the thing whose word ends with this sign, else None; BadSign where it can't come."""
        if sign not in self.comers[self.behind]:
            raise BadSign(self.taken)
        self.taken += 1
        self.behind += sign
        number = self.numbers.get(self.behind)
        if number is not None:
            self.behind = ""
        return number

    def amid(self):
        """What stands since the last word's end."""
        return self.behind

    def next_signs(self):
        """The signs that can come next, sorted as letters are."""
        return list(self.comers[self.behind])


def signs_behind(book, begin):
    """The signs that come behind a begin in the words of a book, sorted, each once."""
    return sorted({word[len(begin)] for word in book if word.startswith(begin)})


def read_row(book, text):
    """The row of things that the text writes; NoBook, then BadSign."""
    reader = Reader(book)
    if not isinstance(text, str):
        raise BadSign(0)
    row = []
    for sign in text:
        number = reader.put_sign(sign)
        if number is not None:
            row.append(number)
    if reader.amid() != "":
        raise BadSign(len(text))
    return row
