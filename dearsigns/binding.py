"""Books in which things have told texts: the cheapest one with all of them, and cheapest ones by how many are kept.

Some things are masks and costs are tops over one bottom, as in seats.py. A pair is a tuple (kept, cost): how many of
the things have their told text, and what the words cost. A front is a list of pairs, most kept first, each one cheaper
than those ahead of it, as no other pair is better in any way.
"""

from dearsigns.cheapest import MOST_THINGS_FREE, MOST_THINGS_ORDERED, as_told, put_words
from dearsigns.columns import begins_of
from dearsigns.seats import Seats, things_of
from dearsigns.tongues import look_at_tongue
from dearsigns.wants import look_at_size, look_at_wants
from dearsigns.words import stands_as_word

NOTHING = (0, 0)


def bound_book(tongue, wants, bound, ordered):
    """A tuple (book, cost) of a cheapest book with the bound texts, or None; TooMany of too many things."""
    look_at_tongue(tongue)
    look_at_wants(wants)
    look_at_size(wants, ordered, MOST_THINGS_FREE, MOST_THINGS_ORDERED)
    seats = KeptSeats(tongue, wants, bound, ordered)
    for pair in seats.whole_front():
        if pair[0] == len(bound):
            return (seats.book_with(pair), seats.told_cost(pair))
    return None


class KeptSeats:
    """What the words of some things cost by how many of them have the texts that are told for them.

    texts is a dict from numbers of things. Only the texts that begin a told word are gone into one by one, each
    reckoned once; behind all others nothing can be kept, and what their seats cost is enough.
    """

    def __init__(self, tongue, wants, texts, ordered):
        self.seats = Seats(tongue, wants, ordered)
        self.owners = owners_of(tongue, len(wants), texts)
        self.begins = begins_of(list(self.owners)) or [""]
        self.takes = {}
        self.fronts = {}
        # The longest ones first, as those ahead of them look there.
        for text in sorted(self.begins, key=len, reverse=True):
            self.reckon_behind(text)

    def reckon_behind(self, text):
        """Reckons the fronts of all things behind a text that begins a told word."""
        for number in reversed(range(len(self.seats.signs))):
            takes = self.taken_fronts(text, number)
            rests = self.rest_fronts(text, number)
            self.takes[(text, number)] = takes
            self.fronts[(text, number)] = {
                mask: best_ways(partings, takes, rests) for mask, partings in self.seats.partings.items()}

    def taken_fronts(self, text, number):
        """The fronts of things taken by a sign behind a text, by their masks; only of none where it may not come."""
        fronts = {0: [NOTHING]}
        sign = self.seats.signs[number]
        if sign in self.seats.comers[text[-1:]]:
            longer = text + sign
            for mask in self.seats.partings:
                fronts[mask] = front_of(
                    [*self.ending_pairs(longer, number, mask), *self.going_pairs(longer, number, mask)])
        return fronts

    def rest_fronts(self, text, number):
        """The fronts of things that are left for the signs behind this one, by their masks; nothing of none."""
        return {0: [NOTHING], **self.fronts.get((text, number + 1), {})}

    def ending_pairs(self, word, number, mask):
        """The pair, in a list, of the one thing in a mask with this word, whose last sign has the number; or none."""
        cost = self.seats.end_cost(number, mask)
        if cost is None:
            return []
        return [(1 if self.owners.get(word, 0) & mask == mask else 0, cost)]

    def going_pairs(self, text, number, mask):
        """The pairs of things whose words go on behind this text, whose last sign has the number."""
        if text in self.begins:
            price = self.going_price(number, mask)
            return [(kept, price + cost) for kept, cost in self.fronts[(text, 0)][mask]]
        cost = self.seats.going_cost(number, len(text) - 1, mask)
        return [] if cost is None else [(0, cost)]

    def going_price(self, number, mask):
        """What a sign amid the words of things costs."""
        return self.seats.together[mask] * self.seats.prices[number]

    def whole_front(self):
        """The front of all things, without pairs where there is no book."""
        return self.fronts[("", 0)][self.seats.everything]

    def told_cost(self, pair):
        """The fraction that a pair's cost is."""
        return as_told(self.seats, pair[1])

    def book_with(self, pair):
        """A book that keeps and costs as a pair of the whole front tells."""
        words = {}
        self.put_behind("", self.seats.everything, pair, words)
        return [words[number] for number in things_of(self.seats.everything)]

    def put_behind(self, text, mask, pair, words):
        """Puts words that begin with a text, and keep and cost as the pair tells, into words, by their things."""
        for number, sign in enumerate(self.seats.signs):
            if mask == 0:
                return
            taken, own, mask, pair = self.way_with(text, number, mask, pair)
            if taken > 0:
                self.put_taken(text + sign, number, taken, own, words)

    def way_with(self, text, number, mask, pair):
        """A tuple (taken, its pair, rest, its pair) of a way that keeps and costs as the pair tells."""
        takes = self.takes[(text, number)]
        rests = self.rest_fronts(text, number)
        ways = [(taken, own, rest, other) for taken, rest in self.seats.partings[mask]
                for own in takes.get(taken, []) for other in rests.get(rest, [])]
        return [way for way in ways if added(way[1], way[3]) == pair][0]

    def put_taken(self, text, number, mask, pair, words):
        """Puts words of taken things that begin with a text, or are it, into words."""
        if pair in self.ending_pairs(text, number, mask):
            words[mask.bit_length() - 1] = text
        elif text in self.begins:
            self.put_behind(text, mask, (pair[0], pair[1] - self.going_price(number, mask)), words)
        else:
            put_words(self.seats, text, mask, words)


def owners_of(tongue, many, texts):
    """The masks of the things for which each word is told, by the word; what is no word is left out."""
    owners = {}
    for number in range(many):
        text = texts.get(number)
        if stands_as_word(tongue, text):
            owners[text] = owners.get(text, 0) | 1 << number
    return owners


def added(one, other):
    """Both pairs together."""
    return (one[0] + other[0], one[1] + other[1])


def front_of(pairs):
    """The front of some pairs."""
    front = []
    for kept, cost in sorted(pairs, key=lambda pair: (-pair[0], pair[1])):
        if not front or cost < front[-1][1]:
            front.append((kept, cost))
    return front


def best_ways(partings, takes, rests):
    """The front of all ways to part things."""
    return front_of([(kept + more, cost + dearer) for taken, rest in partings
                     for kept, cost in takes.get(taken, []) for more, dearer in rests.get(rest, [])])
