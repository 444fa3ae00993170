"""The refusals, one class for each kind."""


class DearError(ValueError):
    """Any refusal."""


class NoNumber(DearError):
    """What no fraction can be made of, or parting by nought."""


class NoBook(DearError):
    """No plain book, or no book at all where one is wanted."""


class NoTree(DearError):
    """No tree of a book for so many things."""


class TooMany(DearError):
    """More than is told or gone through."""


class NoCount(DearError):
    """No count of a thing."""


class NoUndo(DearError):
    """Nothing is left to be undone."""


class NoTurn(DearError):
    """No letters, no order or no factor."""


class NoRow(DearError):
    """No row of words that a desk answers."""


class Unknown(DearError):
    """A name that nothing has."""


class NoTongue(DearError):
    """No tongue; part is the first part that is wrong, None where there are no four parts."""

    def __init__(self, part):
        super().__init__(f"no tongue: {part}")
        self.part = part


class NoWants(DearError):
    """No wants; number is that of the first wrong thing, None where it is no list of so many."""

    def __init__(self, number):
        super().__init__(f"no wants: {number}")
        self.number = number


class NoThing(DearError):
    """No row of things; place is that of the first wrong one, None where it is no list."""

    def __init__(self, place):
        super().__init__(f"no row of things: {place}")
        self.place = place


class BadSign(DearError):
    """A text that can't be read; place is that of the first sign that can't stand there."""

    def __init__(self, place):
        super().__init__(f"no row's text goes on so: {place}")
        self.place = place


class NoText(DearError):
    """A text that writes no case; row is the number of the first wrong row."""

    def __init__(self, row):
        super().__init__(f"no case is written so: {row}")
        self.row = row
