"""Keepers: books that are kept, and mended while counts change."""

from dearsigns.books import cost_of
from dearsigns.cheapest import as_told, book_from
from dearsigns.errors import NoBook, NoCount, NoUndo, Unknown
from dearsigns.mending import look_at_mended_size, mend
from dearsigns.numbers import NOUGHT
from dearsigns.seats import Seats
from dearsigns.tongues import look_at_tongue, own_tongue
from dearsigns.wants import is_count, look_at_wants, with_count


class Keeper:
    """Keeps a book for wants, within a slack of the cheapest one; its lists are never changed, but replaced."""

    def __init__(self, tongue, wants, ordered=False, slack=None):
        look_at_tongue(tongue)
        look_at_wants(wants)
        look_at_mended_size(wants, ordered)
        self.tongue = own_tongue(tongue)
        self.ordered = ordered
        self.slack = NOUGHT if slack is None else slack
        self.wants = list(wants)
        self.past = []
        self.book = book_from(self.seats_now())
        if self.book is None:
            raise NoBook("there is no book for so many things")

    def set_count(self, name, count):
        """Sets a thing's count anew and tells the names of the things whose word is another one now."""
        names = [want[0] for want in self.wants]
        if name not in names:
            raise Unknown("no thing has this name")
        if not is_count(count):
            raise NoCount("a count is a whole number from 0 to 10 ** 9")
        wants = with_count(self.wants, names.index(name), count)
        book, cost, changed = mend(self.tongue, wants, self.book, self.slack, self.ordered)
        self.past.append((self.wants, self.book))
        self.wants = wants
        self.book = book
        return [names[number] for number in changed]

    def undo(self):
        """Undoes the last setting that is not undone."""
        if not self.past:
            raise NoUndo("no setting is left")
        self.wants, self.book = self.past.pop()

    def wants_now(self):
        """The wants."""
        return list(self.wants)

    def book_now(self):
        """The book."""
        return list(self.book)

    def cost_now(self):
        """What the book costs."""
        return cost_of(self.tongue, self.wants, self.book)

    def least_now(self):
        """What the cheapest book costs."""
        seats = self.seats_now()
        return as_told(seats, seats.whole_cost())

    def seats_now(self):
        """The seats for the wants."""
        return Seats(self.tongue, self.wants, self.ordered)
