"""Shares found for a tongue and wants.

Parts and shares are tops here: parts over UNIT, shares over FULL. Prices are tops over one bottom of the tongue, and a
weight, a tuple (top, bottom), is what a share of one comes to beside a price of one. Which parts are good is guessed,
step by step; whatever they are, the values that are told with them are right.
"""

from dearsigns.errors import TooMany
from dearsigns.numbers import NOUGHT, fraction, under
from dearsigns.tongues import look_at_tongue
from dearsigns.wants import look_at_wants
from dearsigns.words import comers_behind, ends_behind, over_one_bottom, price_tops, text_counts, words_of

MOST_TEXTS = 5000
# Many small numbers divide it, so that parts such as a third are met just.
UNIT = 720720
# A unit for each sign of the longest word that there is.
FULL = 720720 ** 8
GUESSES = 40


def shares_for(tongue, wants):
    """Shares that are let by; TooMany of a tongue of which more than 5000 texts with a sign stand."""
    look_at_tongue(tongue)
    look_at_wants(wants)
    if sum(text_counts(tongue)) > MOST_TEXTS:
        raise TooMany("more than 5000 texts stand in the tongue")
    words = words_of(tongue)
    if not words:
        return (NOUGHT, [], [NOUGHT for want in wants])
    sharer = Sharer(tongue, wants, words)
    return sharer.shares_over(words, GUESSES, sharer.dearest_cost(words))


class Sharer:
    """Finds shares for some words of a tongue."""

    def __init__(self, tongue, wants, words):
        self.bottom, rows = over_one_bottom(tongue)
        self.prices = price_tops(rows, words)
        self.counts = [count for name, count in wants]
        self.equal = equal_parts(tongue)

    def dearest_cost(self, words):
        """What no book of these words costs more than."""
        return fraction(sum(self.counts) * max([self.prices[word] for word in words]), self.bottom)

    def shares_over(self, words, guesses, wanted):
        """The best of so many guesses of shares that are right for these words; the first that claims as wanted."""
        parts = self.equal
        best = None
        for step in range(guesses):
            guess = Guess(self, parts, words, wanted)
            if best is None or under(best.claim, guess.claim):
                best = guess
            if not under(best.claim, wanted):
                break
            parts = guess.better_parts()
        return best.shares()


class Guess:
    """The best shares with some parts: points are tuples (price, share), those of the words that can be best."""

    def __init__(self, sharer, parts, words, wanted):
        self.sharer = sharer
        self.parts = parts
        self.words_at = {}
        for word in words:
            tied = self.words_at.setdefault((sharer.prices[word], top_share(parts, word)), [])
            tied.append(word)
        self.points = lowest_points(list(self.words_at))
        self.falling = sorted(sharer.counts, reverse=True)
        self.weight = self.best_weight(wanted)
        self.claim = self.claim_at(self.weight)

    def picks_at(self, weight):
        """The point that is best for each count, the counts falling."""
        picks = []
        place = 0
        for count in self.falling:
            # Lesser counts go with dearer points, and the points are such that the first that is best is found so.
            while place + 1 < len(self.points) and self.is_next_better(place, count, weight):
                place += 1
            picks.append(self.points[place])
        return picks

    def is_next_better(self, place, count, weight):
        """Whether the next point is as good as this one for a count."""
        price, share = self.points[place]
        dearer, less = self.points[place + 1]
        return count * (dearer - price) * weight[1] <= weight[0] * (share - less)

    def line_of(self, picks):
        """A tuple (slope, cost): with these picks the claim is cost and slope times the weight."""
        cost = sum([count * point[0] for count, point in zip(self.falling, picks)])
        return (sum([point[1] for point in picks]) - FULL, cost)

    def claim_at(self, weight):
        """What the shares claim."""
        slope, cost = self.line_of(self.picks_at(weight))
        return fraction(cost * weight[1] + slope * weight[0], weight[1] * self.sharer.bottom)

    def best_weight(self, wanted):
        """The weight with the greatest claim: there a rising and a falling line meet, and none is below them."""
        left = self.line_of(self.picks_at(NOUGHT))
        right = self.line_of([self.points[-1] for count in self.falling])
        if left[0] <= 0:
            return NOUGHT
        if right[0] > 0:
            return self.far_weight(wanted)
        # It ends, as each line in the middle is a new one, below the two where they meet.
        while True:
            weight = (right[1] - left[1], left[0] - right[0])
            middle = self.line_of(self.picks_at(weight))
            if (middle[1] - left[1]) * weight[1] == (left[0] - middle[0]) * weight[0]:
                return weight
            if middle[0] > 0:
                left = middle
            else:
                right = middle

    def far_weight(self, wanted):
        """A weight with a claim as wanted, where claims have no end as there is no room for so many words."""
        weight = (1, FULL)
        while under(self.claim_at(weight), wanted):
            weight = (2 * weight[0], FULL)
        return weight

    def better_parts(self):
        """Parts amid the old ones and those that the picked words have use for."""
        uses = {signs: 0 for signs in self.parts}
        # On both sides of the best weight, as picks change just there.
        for near in (97, 103):
            for point in self.picks_at((near * self.weight[0], 100 * self.weight[1])):
                tied = self.words_at[point]
                for word in tied:
                    put_uses(uses, word, point[1] // len(tied))
        return mixed_parts(self.parts, uses)

    def shares(self):
        """The shares, as they are told."""
        top, bottom = self.weight
        picks = {count: point for count, point in zip(self.falling, self.picks_at(self.weight))}
        values = [fraction(count * picks[count][0] * bottom + picks[count][1] * top, bottom * self.sharer.bottom)
                  for count in self.sharer.counts]
        parts = [(ahead, sign, fraction(part, UNIT)) for (ahead, sign), part in self.parts.items()]
        return (fraction(top * FULL, bottom * self.sharer.bottom), parts, values)


def equal_parts(tongue):
    """Equal parts, behind each sign, for the signs that may come and lead to a word's end."""
    comers = comers_behind(tongue)
    ends = ends_behind(tongue)
    parts = {}
    for ahead in comers:
        leading = [sign for sign in comers[ahead] if any([row[sign] for row in ends])]
        for sign in leading:
            parts[(ahead, sign)] = UNIT // len(leading)
    return parts


def top_share(parts, word):
    """The share of a word where whole is one."""
    share = FULL
    ahead = ""
    for sign in word:
        # No word has more signs than FULL has units, so nothing is lost.
        share = share // UNIT * parts[(ahead, sign)]
        ahead = sign
    return share


def lowest_points(points):
    """The points that are best for some weight, by rising price."""
    lowest = []
    for point in sorted(points):
        if lowest and point[1] >= lowest[-1][1]:
            continue
        while len(lowest) > 1 and is_above(lowest[-2], lowest[-1], point):
            lowest.pop()
        lowest.append(point)
    return lowest


def is_above(one, middle, other):
    """Whether the middle point is not below the line from one to the other."""
    return (one[1] - middle[1]) * (other[0] - one[0]) <= (one[1] - other[1]) * (middle[0] - one[0])


def put_uses(uses, word, share):
    """Adds a share to the uses of each sign of a word behind the sign ahead of it."""
    ahead = ""
    for sign in word:
        uses[(ahead, sign)] += share
        ahead = sign


def mixed_parts(parts, uses):
    """Parts half way between the old ones and such as are like the uses."""
    totals = {ahead: 0 for ahead, sign in parts}
    for ahead, sign in uses:
        totals[ahead] += uses[(ahead, sign)]
    mixed = {(ahead, sign): parts[(ahead, sign)] * totals[ahead] + uses[(ahead, sign)] * UNIT for ahead, sign in parts}
    sums = {ahead: 0 for ahead in totals}
    for ahead, sign in mixed:
        sums[ahead] += mixed[(ahead, sign)]
    # What is not used at all stays as it was.
    return {(ahead, sign): parts[(ahead, sign)] if sums[ahead] == 0 else UNIT * mixed[(ahead, sign)] // sums[ahead]
            for ahead, sign in parts}
