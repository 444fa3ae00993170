"""Whether a book costs less than a least is sought: a book is told, or a tree of reasons why there is none."""

from dearsigns.books import cost_of, first_clash, put_in_places
from dearsigns.cheapest import book_from
from dearsigns.numbers import under
from dearsigns.parts import candidates_among
from dearsigns.reasons import MOST_NODES, MOST_SPLITS_WITHIN, SAID, cheapest_words, is_so, looked_at_ground
from dearsigns.seats import Seats
from dearsigns.sharing import Sharer

GUESSES = 4


def seek_book(tongue, wants, least, most):
    """("book", book), ("none", tree) or ("open",), by at most so many parts; TooMany as for the reasons."""
    ground = looked_at_ground(tongue, wants, least)
    falling = things_by_falling_counts(ground.counts)
    for order in (falling, falling[::-1]):
        book = book_in_order(tongue, wants, order)
        if book is not None and under(cost_of(tongue, wants, book), least):
            return ("book", book)
    seeker = Seeker(ground, Sharer(tongue, wants, ground.words), most)
    tree = seeker.tree_for({})
    if seeker.book is not None:
        return ("book", seeker.book)
    return ("open",) if tree is None else ("none", tree)


def things_by_falling_counts(counts):
    """The numbers of the things, those with the greatest counts first."""
    return sorted(range(len(counts)), key=lambda number: -counts[number])


def book_in_order(tongue, wants, order):
    """The cheapest book whose words come one ahead of the other in this order of the things, None if there is none.

    It is soon reckoned, also for many things, and by their counts' order seldom much dearer than the cheapest of all.
    """
    words = book_from(Seats(tongue, [wants[number] for number in order], True))
    return None if words is None else put_in_places(words, order)


class Seeker:
    """Goes into parts, each of which is a split or a reason of the tree, until a book is found or none is left."""

    def __init__(self, ground, sharer, most):
        self.ground = ground
        self.sharer = sharer
        # A tree with more is none, whatever most tells.
        self.left = min(most, MOST_NODES)
        self.book = None

    def tree_for(self, said):
        """A tree of reasons for what is said; None where a book was found, or no more parts may be gone into."""
        if self.left < 1:
            return None
        self.left -= 1
        candidates = candidates_among(self.ground.words, said)
        reason = self.reason_for(said, candidates)
        if reason is not None:
            return reason
        # They cost less than the least, or the reason would be so; what clashes among them tells what to ask next.
        words = cheapest_words(self.ground, said, candidates)
        clash = first_clash(words)
        if clash is None:
            self.book = put_in_places(words, things_by_falling_counts(self.ground.counts))
            return None
        if len(said) == MOST_SPLITS_WITHIN:
            return None
        return self.split_by(said, first_unsaid(said, words[clash[0]]))

    def split_by(self, said, text):
        """The split with a tree for each word that may be said of the text, or None."""
        trees = []
        for word in SAID:
            tree = self.tree_for({**said, text: word})
            if tree is None:
                return None
            trees.append(tree)
        return ("split", text, tuple(trees))

    def reason_for(self, said, candidates):
        """A reason that is so for what is said, or None."""
        for reason in [("few",), ("must",), *[("dead", text) for text in said], ("cheapest",)]:
            if is_so(self.ground, said, candidates, reason):
                return reason
        shares = self.sharer.shares_over(candidates, GUESSES, self.ground.least)
        reason = ("shares", *shares)
        return reason if is_so(self.ground, said, candidates, reason) else None


def first_unsaid(said, word):
    """The shortest text that begins the word, or is it, and of which nothing is said."""
    return [word[:deep] for deep in range(1, len(word) + 1) if word[:deep] not in said][0]
