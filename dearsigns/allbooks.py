"""All books for few things, and what they cost."""

from dearsigns.columns import how_often
from dearsigns.counting import books_many
from dearsigns.errors import TooMany
from dearsigns.numbers import fraction
from dearsigns.tongues import look_at_tongue, signs_of
from dearsigns.wants import look_at_size, look_at_wants
from dearsigns.words import over_one_bottom, price_tops, words_of

MOST_BOOKS = 3000
MOST_THINGS = 5


def all_books(tongue, many, ordered):
    """All books for so many things, sorted by letters; TooMany of more than 3000 books or 5000 words."""
    look_at_tongue(tongue)
    if books_many(tongue, many, ordered) > MOST_BOOKS:
        raise TooMany("there are more than 3000 books")
    sets = []
    put_sets(words_in_order(tongue), many, [], sets)
    if ordered:
        return sorted(sets)
    return sorted([book for words in sets for book in orders_of(words)])


def costs_of_all(tongue, wants, ordered):
    """Tuples (cost, how many) of all books, by rising cost; TooMany likewise, and of more than five things."""
    look_at_tongue(tongue)
    look_at_wants(wants)
    look_at_size(wants, ordered, MOST_THINGS, MOST_THINGS)
    books = all_books(tongue, len(wants), ordered)
    bottom, rows = over_one_bottom(tongue)
    prices = price_tops(rows, words_of(tongue))
    costs = how_often([sum([want[1] * prices[word] for want, word in zip(wants, book)]) for book in books])
    return [(fraction(cost, bottom), costs[cost]) for cost in sorted(costs)]


def words_in_order(tongue):
    """All words, each ahead of those that it begins, else by the signs' order; TooMany above 5000."""
    signs = signs_of(tongue)
    return sorted(words_of(tongue), key=lambda word: [signs.index(sign) for sign in word])


def put_sets(words, many, begun, sets):
    """Puts each set of so many of the words, none of which begins another one, behind those begun into sets."""
    if many == 0:
        sets.append(begun)
        return
    for place, word in enumerate(words):
        # One that begins this word stood ahead of it, so it is enough to leave out those that it begins.
        left = [] if many == 1 else [later for later in words[place + 1:] if not later.startswith(word)]
        put_sets(left, many - 1, [*begun, word], sets)


def orders_of(some):
    """Some things in each order."""
    if len(some) == 0:
        return [[]]
    return [[one, *others] for place, one in enumerate(some) for others in orders_of(some[:place] + some[place + 1:])]
