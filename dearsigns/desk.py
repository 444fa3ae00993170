"""The desk: cases kept by names, asked and changed by rows of words.

What answers a row is handed the case and the words behind its name, and tells the case as it is from then on, with the
answer. So whatever refuses a row has changed nothing.
"""

from dearsigns.books import cost_of, what_is_wrong
from dearsigns.casereader import MOST_FIGURES_OF_WHOLES, read_case, whole_in
from dearsigns.casewriter import show_fraction, write_case
from dearsigns.cheapest import cheapest_book, least_price
from dearsigns.counting import books_many
from dearsigns.errors import NoBook, NoCount, NoRow, TooMany, Unknown
from dearsigns.mending import look_at_mended_size, mend
from dearsigns.numbers import NOUGHT, fraction, is_name, times
from dearsigns.reading import read_row
from dearsigns.wants import is_count, with_count
from dearsigns.writing import write_row

MOST_CASES = 40
ROW_MARK = "; "


def tell_text(case, words):
    """The case's text."""
    return (case, write_case(case).replace("\n", ROW_MARK))


def find_cheapest(case, words):
    """A cheapest book is the case's from now on; its cost, or none."""
    return with_cheapest(case, False)


def find_ordered(case, words):
    """A cheapest ordered book is the case's from now on; its cost, or none."""
    return with_cheapest(case, True)


def with_cheapest(case, ordered):
    """The case with a cheapest book, and its cost; as it was, and none, where there is no book."""
    tongue, wants, elder = case
    book, cost, floors = cheapest_book(tongue, wants, ordered)
    if book is None:
        return (case, "none")
    return ((tongue, wants, book), show_fraction(cost))


def tell_cost(case, words):
    """What the book costs."""
    book = right_book(case)
    return (case, show_fraction(cost_of(case[0], case[1], book)))


def tell_wrong(case, words):
    """What is wrong with the book."""
    wrong = what_is_wrong(case[0], case[1], any_book(case))
    return (case, "-" if wrong is None else " ".join([str(part) for part in wrong]))


def write_things(case, words):
    """The text of things, told by their names."""
    numbers = [number_of(case, word) for word in words]
    return (case, write_row(any_book(case), numbers))


def read_signs(case, words):
    """The names of the things that signs write."""
    numbers = read_row(any_book(case), words[0])
    return (case, " ".join([case[1][number][0] for number in numbers]))


def set_count(case, words):
    """A thing's count is set anew and the book mended; the names of the things whose word is another one."""
    number = number_of(case, words[0])
    elder = right_book(case)
    tongue, wants = case[:2]
    look_at_mended_size(wants, False)
    count = int(words[1])
    if not is_count(count):
        raise NoCount("a count is at most 10 ** 9")
    counted = with_count(wants, number, count)
    book, cost, changed = mend(tongue, counted, elder, NOUGHT, False)
    return ((tongue, counted, book), " ".join([wants[one][0] for one in changed]) or "-")


def tell_books(case, words):
    """How many books there are for the case's things."""
    return (case, str(books_many(case[0], len(case[1]), False)))


def tell_bound(case, words):
    """What the things would cost if each had a cheapest word."""
    price = least_price(case[0])
    together = fraction(sum([count for name, count in case[1]]))
    return (case, show_fraction(NOUGHT if price is None else times(together, price)))


# What answers each row that is asked of a case.
ANSWERS = {
    "shown": tell_text, "cheapest": find_cheapest, "ordered": find_ordered, "cost": tell_cost, "wrong": tell_wrong,
    "write": write_things, "read": read_signs, "count": set_count, "books": tell_books, "bound": tell_bound,
}
# How many words stand behind the name.
WORDS_BEHIND = {
    "shown": 0, "drop": 0, "cheapest": 0, "ordered": 0, "cost": 0, "wrong": 0, "read": 1, "count": 2, "books": 0,
    "bound": 0,
}


def any_book(case):
    """The case's book, right or wrong, or NoBook."""
    if case[2] is None:
        raise NoBook("the case has no book")
    return case[2]


def right_book(case):
    """The case's book with which nothing is wrong, or NoBook."""
    book = any_book(case)
    if what_is_wrong(case[0], case[1], book) is not None:
        raise NoBook("something is wrong with the case's book")
    return book


def number_of(case, word):
    """The number of the thing with this name, or Unknown."""
    names = [want[0] for want in case[1]]
    if word not in names:
        raise Unknown("the case has no such thing")
    return names.index(word)


def is_row(words):
    """Whether the words are a row that is asked of a case, whether or not there is one."""
    if len(words) < 2 or not is_name(words[1]) or "" in words:
        return False
    kind = words[0]
    if kind == "write":
        return len(words) > 2
    if kind not in WORDS_BEHIND or len(words) - 2 != WORDS_BEHIND[kind]:
        return False
    return kind != "count" or whole_in(words[3], MOST_FIGURES_OF_WHOLES) is not None


class Desk:
    """Keeps cases by names and answers rows."""

    def __init__(self):
        self.cases = {}

    def say(self, row):
        """The answer to a row."""
        if not isinstance(row, str) or "\n" in row:
            raise NoRow("a row is a text without line feeds")
        if row == "names":
            return " ".join(sorted(self.cases)) or "-"
        if row.startswith("case "):
            return self.put_case(row[len("case "):])
        words = row.split(" ")
        if not is_row(words):
            raise NoRow("no such row is answered")
        return self.answer(words)

    def put_case(self, rest):
        """Puts the case that a row's text writes by its name."""
        name, blank, text = rest.partition(" ")
        if not is_name(name) or blank == "":
            raise NoRow("a case has a name, and a blank behind it")
        case = read_case(text.replace(ROW_MARK, "\n"))
        if name not in self.cases and len(self.cases) == MOST_CASES:
            raise TooMany("there are forty cases already")
        self.cases[name] = case
        return "ok"

    def answer(self, words):
        """The answer to a row that is asked of a case."""
        name = words[1]
        if name not in self.cases:
            raise Unknown("no case has this name")
        if words[0] == "drop":
            self.cases.pop(name)
            return "ok"
        told_by = ANSWERS[words[0]]
        case, told = told_by(self.cases[name], words[2:])
        self.cases[name] = case
        return told
