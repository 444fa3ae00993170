"""Shares: bounds from below for any counts, and whether they are let by.

A text's share is kept as a tuple (top, bottom) that is not brought to lowest terms, as there are very many.
"""

from dearsigns.numbers import NOUGHT, is_from_nought, minus, plus, sum_of, under
from dearsigns.tongues import look_at_tongue, signs_of
from dearsigns.wants import look_at_wants
from dearsigns.words import comers_behind, over_one_bottom

MOST_LOOKED_AT = 5000
ALL = (1, 1)


def lets_shares(tongue, wants, thing):
    """Whether it is shares that are let by."""
    look_at_tongue(tongue)
    look_at_wants(wants)
    if not are_shares(signs_of(tongue), len(wants), thing):
        return False
    walk = ShareWalk(tongue, thing)
    return all(walk.is_kept(want[1], value) for want, value in zip(wants, thing[2]))


def claim_of_shares(shares):
    """The sum of the values less whole."""
    return minus(sum_of(shares[2]), shares[0])


def are_shares(signs, many, thing):
    """Whether it has the form of shares for these signs and so many things."""
    if not isinstance(thing, tuple) or len(thing) != 3:
        return False
    whole, parts, values = thing
    return is_from_nought(whole) and are_parts(signs, parts) and are_values(many, values)


def are_parts(signs, thing):
    """Whether it is a list of parts, no two of the same signs, those of each sign together at most all."""
    if not isinstance(thing, list):
        return False
    together = {ahead: NOUGHT for ahead in ["", *signs]}
    seen = set()
    for row in thing:
        if not is_part(signs, row) or row[:2] in seen:
            return False
        seen.add(row[:2])
        together[row[0]] = plus(together[row[0]], row[2])
    return not any(under(ALL, one) for one in together.values())


def is_part(signs, thing):
    """Whether it is a tuple of a sign or the text without signs, a sign, and a fraction from nought on."""
    if not isinstance(thing, tuple) or len(thing) != 3:
        return False
    ahead, sign, part = thing
    return (ahead == "" or ahead in signs) and sign in signs and is_from_nought(part)


def are_values(many, thing):
    """Whether it is a list of so many fractions from nought on."""
    return isinstance(thing, list) and len(thing) == many and all(is_from_nought(value) for value in thing)


def parts_by_signs(parts):
    """The parts by (the sign ahead, the sign)."""
    return {(ahead, sign): part for ahead, sign, part in parts}


def share_behind(share, parts, ahead, sign):
    """The share of a text that is longer by a sign."""
    part = parts.get((ahead, sign), NOUGHT)
    return (share[0] * part[0], share[1] * part[1])


def share_of(whole, parts, text):
    """The share of a text."""
    share = whole
    ahead = ""
    for sign in text:
        share = share_behind(share, parts, ahead, sign)
        ahead = sign
    return share


def is_within(value, count, price, share):
    """Whether a value is at most count times a price and a share together."""
    together = count * price[0] * share[1] + share[0] * price[1]
    return value[0] * price[1] * share[1] <= together * value[1]


class ShareWalk:
    """Goes through the texts that are looked at for a thing; ways are tops over one bottom."""

    def __init__(self, tongue, shares):
        self.bottom, rows = over_one_bottom(tongue)
        comers = comers_behind(tongue)
        self.rows_behind = {ahead: [row for row in rows if row[0] in comers[ahead]] for ahead in comers}
        self.longest = tongue[3]
        self.whole = shares[0]
        self.parts = parts_by_signs(shares[1])

    def is_kept(self, count, value):
        """Whether a thing's value is small enough for each word, and not too many texts are looked at."""
        begins = [("", 0, self.whole)]
        looked_at = 0
        for deep in range(self.longest):
            longer = []
            # Ways grow from sign to sign, so it is enough to ask it of the longest text that begins another one.
            for begin in [one for one in begins if count * one[1] * value[1] < value[0] * self.bottom]:
                looked_at += len(self.rows_behind[begin[0]])
                if looked_at > MOST_LOOKED_AT or not self.put_longer(begin, count, value, longer):
                    return False
            begins = longer
        return True

    def put_longer(self, begin, count, value, longer):
        """Puts the texts behind a begin into longer; whether the value is small enough for those that are words."""
        ahead, way, share = begin
        for sign, price, last in self.rows_behind[ahead]:
            own = share_behind(share, self.parts, ahead, sign)
            if last is not None and not is_within(value, count, (way + last, self.bottom), own):
                return False
            longer.append((sign, way + price, own))
        return True
