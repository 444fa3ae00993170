"""Seats: what the words of some things come to behind a begin of theirs.

Some things are one number here, their mask: its bit k tells whether thing k is among them.
"""

from dearsigns.tongues import signs_of
from dearsigns.words import comers_behind, over_one_bottom


def mask_of(things):
    """The mask of some things' numbers."""
    mask = 0
    for number in things:
        mask |= 1 << number
    return mask


def things_of(mask):
    """The rising tuple of the numbers in a mask."""
    return tuple([number for number in range(mask.bit_length()) if mask >> number & 1 == 1])


def is_one(mask):
    """Whether just one thing is in a mask that has some."""
    return mask & (mask - 1) == 0


def masks_up_to(many, ordered):
    """The masks of all things that a seat can have."""
    if ordered:
        return [(1 << end) - (1 << start) for end in range(1, many + 1) for start in range(end)]
    return list(range(1, 1 << many))


def partings_of(mask, ordered):
    """Tuples (taken, rest) of masks: the ways to part things, of ordered ones the first ones being taken."""
    if ordered:
        things = things_of(mask)
        takes = [mask_of(things[:many]) for many in range(len(things) + 1)]
    else:
        takes = [some for some in range(mask + 1) if some & mask == some]
    return [(some, mask - some) for some in takes]


def counts_together(wants, mask):
    """The counts of the things in a mask together."""
    return sum([wants[number][1] for number in things_of(mask)])


class Seats:
    """The least cost of each seat of a tongue and wants, each reckoned once.

    Costs are whole numbers over one common bottom; None is that of a seat where nothing can be.
    costs has, by (sign, deep, from), a dict from masks; takes likewise, by (sign's number, deep), what taken ones cost.
    """

    def __init__(self, tongue, wants, ordered):
        self.bottom, rows = over_one_bottom(tongue)
        self.signs = signs_of(tongue)
        self.longest = tongue[3]
        self.comers = comers_behind(tongue)
        self.prices = [price for sign, price, last in rows]
        self.lasts = [last for sign, price, last in rows]
        self.partings = {mask: partings_of(mask, ordered) for mask in masks_up_to(len(wants), ordered)}
        self.together = {mask: counts_together(wants, mask) for mask in self.partings}
        self.everything = (1 << len(wants)) - 1
        self.costs = {}
        self.takes = {}
        self.reckon()

    def reckon(self):
        """Reckons all seats, the deepest ones first, as those ahead of them look there."""
        for deep in reversed(range(self.longest)):
            for number in range(len(self.signs)):
                self.takes[(number, deep)] = self.taken_costs(number, deep)
            for sign in self.signs if deep > 0 else [""]:
                self.reckon_behind(sign, deep)

    def taken_costs(self, number, deep):
        """What things cost that are taken by a sign behind so many signs, by their masks; nought of none."""
        costs = {0: 0}
        for mask in self.partings:
            costs[mask] = lesser(self.end_cost(number, mask), self.going_cost(number, deep, mask))
        return costs

    def end_cost(self, number, mask):
        """What the thing in a mask costs where its word ends with this sign, or None."""
        if self.lasts[number] is None or not is_one(mask):
            return None
        return self.together[mask] * self.lasts[number]

    def going_cost(self, number, deep, mask):
        """What things cost whose words go on behind this sign, or None."""
        if deep + 1 == self.longest:
            return None
        behind = self.costs[(self.signs[number], deep + 1, 0)][mask]
        return None if behind is None else self.together[mask] * self.prices[number] + behind

    def reckon_behind(self, sign, deep):
        """Reckons the seats behind a begin with this last sign and so many signs."""
        rests = {0: 0}
        for number in reversed(range(len(self.signs))):
            takes = self.takes_behind(sign, deep, number)
            costs = {mask: least_way(self.partings[mask], takes, rests) for mask in self.partings}
            self.costs[(sign, deep, number)] = costs
            rests = {0: 0, **costs}

    def takes_behind(self, sign, deep, number):
        """What taken things cost by a sign behind another one, by their masks; only none where it may not come."""
        if self.signs[number] in self.comers[sign]:
            return self.takes[(number, deep)]
        return {0: 0}

    def whole_cost(self):
        """The least cost of all things together, None where there is no book."""
        return self.costs[("", 0, 0)][self.everything]

    def cheapest_parting(self, sign, deep, number, mask):
        """The tuple (taken, rest) of a cheapest way of a seat where something can be."""
        takes = self.takes_behind(sign, deep, number)
        rests = {0: 0, **self.costs.get((sign, deep, number + 1), {})}
        least = self.costs[(sign, deep, number)][mask]
        return [pair for pair in self.partings[mask] if way_cost(pair, takes, rests) == least][0]


def lesser(one, other):
    """The lesser one of two costs of which either may not be there, None where neither is."""
    if one is None or other is None:
        return other if one is None else one
    return min(one, other)


def least_way(partings, takes, rests):
    """The least that a way comes to, None where no way is there."""
    least = None
    for pair in partings:
        least = lesser(least, way_cost(pair, takes, rests))
    return least


def way_cost(parting, takes, rests):
    """What taken things and the rest cost together, None where either can't be."""
    taken = takes.get(parting[0])
    rest = rests.get(parting[1])
    return None if taken is None or rest is None else taken + rest
