"""How many sets of words there are of each size, none of which begins another one, and how many books."""

from dearsigns.tongues import look_at_tongue
from dearsigns.words import comers_behind, lasts_of


def sets_by_size(tongue, most):
    """How many sets there are of 0, 1 and more words, to so many."""
    look_at_tongue(tongue)
    comers = comers_behind(tongue)
    lasts = lasts_of(tongue)
    # Nothing comes behind a text of the greatest length, so only the set without words is there.
    behind = {sign: [1] + [0] * most for sign in lasts}
    for step in range(tongue[3] - 1):
        begun = sets_begun(behind, lasts)
        behind = {sign: sets_of_all([begun[comer] for comer in comers[sign]], most) for sign in lasts}
    begun = sets_begun(behind, lasts)
    return sets_of_all([begun[comer] for comer in comers[""]], most)


def books_many(tongue, many, ordered):
    """How many books there are for so many things."""
    books = sets_by_size(tongue, many)[many]
    if not ordered:
        for things in range(1, many + 1):
            books *= things
    return books


def sets_begun(behind, lasts):
    """How many sets there are of each size whose words all begin with a sign, by the sign: that word alone is one."""
    return {sign: [many + 1 if size == 1 and lasts[sign] is not None else many for size, many in enumerate(sizes)]
            for sign, sizes in behind.items()}


def sets_of_all(rows, most):
    """How many sets there are of each size that are put together of a set of each row."""
    sizes = [1] + [0] * most
    for row in rows:
        sizes = [sum([sizes[size] * row[whole - size] for size in range(whole + 1)]) for whole in range(most + 1)]
    return sizes
