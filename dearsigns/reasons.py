"""Reasons why no book that goes with a part costs less than a least, and trees of reasons.

What a part says is kept as a dict here, from its texts to their words.
"""

from dearsigns.numbers import under
from dearsigns.parts import candidates_among, look_at_few_texts, may_be_next
from dearsigns.shares import are_shares, claim_of_shares, is_within, parts_by_signs, share_of
from dearsigns.tongues import look_at_tongue, signs_of
from dearsigns.wants import look_at_wants
from dearsigns.words import over_one_bottom, price_tops, words_of

MOST_NODES = 4000
MOST_SPLITS_WITHIN = 100
SAID = ("ends", "on", "unused")


def is_reason(tongue, wants, least, part, thing):
    """Whether it is a reason that is so for the part; TooMany of a tongue with too many words or texts."""
    ground = looked_at_ground(tongue, wants, least)
    said = {text: word for text, word in part}
    return is_so(ground, said, candidates_among(ground.words, said), thing)


def lets_tree(tongue, wants, least, thing):
    """Whether it is a tree of reasons for the part without texts; TooMany likewise."""
    return TreeWalk(looked_at_ground(tongue, wants, least)).lets({}, thing)


def looked_at_ground(tongue, wants, least):
    """The ground for all parts; NoTongue, then NoWants, then TooMany."""
    look_at_tongue(tongue)
    look_at_wants(wants)
    look_at_few_texts(tongue)
    return Ground(tongue, wants, least)


class Ground:
    """What all parts have in common: prices are tops over one bottom, counts are in the things' order."""

    def __init__(self, tongue, wants, least):
        self.tongue = tongue
        self.words = words_of(tongue)
        self.bottom, rows = over_one_bottom(tongue)
        self.prices = price_tops(rows, self.words)
        self.counts = [count for name, count in wants]
        self.least = least

    def many(self):
        """How many things there are."""
        return len(self.counts)

    def price(self, word):
        """The top of a word's price."""
        return self.prices[word]

    def is_reached_by(self, words):
        """Whether these words, by rising price, cost the least or more with the counts in falling order."""
        cost = sum([count * self.prices[word] for count, word in zip(sorted(self.counts, reverse=True), words)])
        return self.least[0] * self.bottom <= cost * self.least[1]


def is_so(ground, said, candidates, thing):
    """Whether it is a reason that is so where these words go with what is said."""
    if thing == ("few",):
        return len(candidates) < ground.many()
    if thing == ("must",):
        return len(ends_of(said)) > ground.many()
    if thing == ("cheapest",):
        words = cheapest_words(ground, said, candidates)
        return words is not None and ground.is_reached_by(words)
    if not isinstance(thing, tuple) or len(thing) == 0:
        return False
    if thing[0] == "dead" and len(thing) == 2:
        return is_dead(ground, said, candidates, thing[1])
    return thing[0] == "shares" and are_shares_so(ground, candidates, thing[1:])


def ends_of(said):
    """The texts of which it is said that they end."""
    return [text for text in said if said[text] == "ends"]


def is_dead(ground, said, candidates, thing):
    """Whether it is a text that is said to go on where no word does, or to end where none can."""
    if not isinstance(thing, str) or thing not in said:
        return False
    if said[thing] == "on":
        return not any(word.startswith(thing) for word in candidates)
    return said[thing] == "ends" and thing not in ground.prices


def cheapest_words(ground, said, candidates):
    """The words that must end and the cheapest others to as many as things, by rising price; None if there are none."""
    ends = ends_of(said)
    left = ground.many() - len(ends)
    if len(candidates) < ground.many() or left < 0 or not all(text in ground.prices for text in ends):
        return None
    others = sorted([word for word in candidates if word not in said], key=ground.price)
    return sorted([*ends, *others[:left]], key=ground.price)


def are_shares_so(ground, candidates, shares):
    """Whether it is shares that are right for each candidate and claim the least or more."""
    if not are_shares(signs_of(ground.tongue), ground.many(), shares) or under(claim_of_shares(shares), ground.least):
        return False
    parts = parts_by_signs(shares[1])
    for word in candidates:
        price = (ground.prices[word], ground.bottom)
        share = share_of(shares[0], parts, word)
        if not all(is_within(value, count, price, share) for count, value in zip(ground.counts, shares[2])):
            return False
    return True


class TreeWalk:
    """Walks through a tree of reasons and counts what it meets."""

    def __init__(self, ground):
        self.ground = ground
        self.met = 0

    def lets(self, said, thing):
        """Whether it is a tree of reasons for what is said."""
        self.met += 1
        if self.met > MOST_NODES:
            return False
        if not isinstance(thing, tuple) or len(thing) != 3 or thing[0] != "split":
            return is_so(self.ground, said, candidates_among(self.ground.words, said), thing)
        # Each split around this one has put a text into the part.
        if len(said) == MOST_SPLITS_WITHIN:
            return False
        text, trees = thing[1:]
        if not may_be_next(self.ground.tongue, said, text) or not isinstance(trees, tuple) or len(trees) != len(SAID):
            return False
        for word, tree in zip(SAID, trees):
            if not self.lets({**said, text: word}, tree):
                return False
        return True
