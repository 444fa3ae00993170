"""Cases and fractions read from texts."""

from dearsigns.casewriter import show_fraction
from dearsigns.errors import NoText
from dearsigns.numbers import is_fraction, is_name, is_whole_within
from dearsigns.tongues import FEWEST_SIGNS, LONGEST_WORD, MOST_SIGNS, is_sign_row
from dearsigns.wants import MOST_THINGS, is_want

FIGURES = "0123456789"
MOST_FIGURES = 60
MOST_FIGURES_OF_PRICES = 9
MOST_FIGURES_OF_WHOLES = 10
KINDS = ("sign", "first", "pair", "longest", "thing", "word")


def read_fraction(text):
    """The fraction that a text writes; NoText, row 0, of anything else."""
    one = fraction_in(text, MOST_FIGURES) if isinstance(text, str) else None
    if one is None:
        raise NoText(0)
    return one


def read_case(text):
    """The case that a text writes; NoText with the number of the first wrong row of anything else."""
    if not isinstance(text, str):
        raise NoText(0)
    draft = Draft()
    rows = text.split("\n")
    for number, row in enumerate(rows):
        if not draft.put_row(row.split(" ")):
            raise NoText(number)
    if not draft.is_whole_case():
        raise NoText(len(rows))
    return draft.told_case()


def whole_in(text, most):
    """The whole number from 0 on that a text of at most so many figures writes, else None."""
    if text == "" or len(text) > most or not all(figure in FIGURES for figure in text):
        return None
    number = int(text)
    # Noughts ahead are written by none.
    return number if str(number) == text else None


def fraction_in(text, most):
    """The fraction that a text writes with at most so many figures above and below, else None."""
    is_below = text.startswith("-")
    top, stroke, bottom = (text[1:] if is_below else text).partition("/")
    above = whole_in(top, most)
    below = whole_in(bottom, most) if stroke == "/" else 1
    if above is None or below is None:
        return None
    one = (-above if is_below else above, below)
    # Nought below nought, and a bottom of 1, are written otherwise.
    return one if is_fraction(one) and show_fraction(one) == text else None


class Draft:
    """What the rows of a case that were read so far come to."""

    def __init__(self):
        self.signs = []
        self.firsts = []
        self.pairs = []
        self.longest = None
        self.wants = []
        self.book = []
        self.stage = 0

    def put_row(self, words):
        """Puts a row in; whether it may stand behind those ahead of it."""
        kind = words[0]
        if kind not in KINDS or KINDS.index(kind) < self.stage:
            return False
        self.stage = KINDS.index(kind)
        if kind == "sign":
            return self.put_sign_row(words[1:])
        if len(self.signs) < FEWEST_SIGNS:
            return False
        if kind == "thing":
            return self.put_thing(words[1:])
        if len(words) != 2:
            return False
        if kind == "longest":
            return self.put_longest(words[1])
        if kind == "word":
            return self.put_word(words[1])
        return self.put_wish(kind, words[1])

    def put_sign_row(self, words):
        """Puts a sign in; whether it may stand."""
        if len(words) != 3 or len(self.signs) == MOST_SIGNS or words[0] in self.letters():
            return False
        sign, price, last = words
        row = (sign, fraction_in(price, MOST_FIGURES_OF_PRICES), fraction_in(last, MOST_FIGURES_OF_PRICES))
        if not is_sign_row(row) or (row[2] is None and last != "-"):
            return False
        self.signs.append(row)
        return True

    def letters(self):
        """The signs without their prices."""
        return [row[0] for row in self.signs]

    def put_wish(self, kind, text):
        """Puts a sign that is never first, or a pair that never stands, in; whether it may stand."""
        letters = self.letters()
        choices = letters if kind == "first" else [one + other for one in letters for other in letters]
        wishes = self.firsts if kind == "first" else self.pairs
        if text not in choices or text in wishes:
            return False
        wishes.append(text)
        return True

    def put_longest(self, text):
        """Puts the longest word's length in; whether it may stand."""
        number = whole_in(text, MOST_FIGURES_OF_WHOLES)
        if self.longest is not None or not is_whole_within(number, 1, LONGEST_WORD):
            return False
        self.longest = number
        return True

    def put_thing(self, words):
        """Puts a thing in; whether it may stand."""
        if len(words) != 2 or self.longest is None or len(self.wants) == MOST_THINGS:
            return False
        want = (words[0], whole_in(words[1], MOST_FIGURES_OF_WHOLES))
        if not is_want(want) or want[0] in [other[0] for other in self.wants]:
            return False
        self.wants.append(want)
        return True

    def put_word(self, text):
        """Puts a word of the book in; whether it may stand."""
        # A word of a case is made just as a name is.
        if len(self.book) == len(self.wants) or not is_name(text):
            return False
        self.book.append(text)
        return True

    def is_whole_case(self):
        """Whether no row lacks."""
        return len(self.wants) > 0 and len(self.book) in (0, len(self.wants))

    def told_case(self):
        """The case."""
        tongue = (self.signs, self.firsts, self.pairs, self.longest)
        return (tongue, self.wants, self.book if self.book else None)
