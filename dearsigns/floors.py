"""Floors: bounds from below for seats, and whether they are let by."""

from dearsigns.numbers import NOUGHT, fraction, is_from_nought, is_whole_within, plus, times, under
from dearsigns.seats import counts_together, is_one, mask_of, masks_up_to, partings_of
from dearsigns.tongues import look_at_tongue, signs_of
from dearsigns.wants import look_at_size, look_at_wants
from dearsigns.words import comers_behind

MOST_SEATS = 30000
MOST_THINGS_FREE = 8
MOST_THINGS_ORDERED = 12


def lets_floors(tongue, wants, thing, ordered):
    """Whether it is floors that are let by; TooMany of too many things."""
    look_at_tongue(tongue)
    look_at_wants(wants)
    look_at_size(wants, ordered, MOST_THINGS_FREE, MOST_THINGS_ORDERED)
    if not are_floors(tongue, len(wants), thing, ordered):
        return False
    walk = FloorWalk(tongue, wants, thing, ordered)
    return all(walk.is_kept(seat, floor) for seat, floor in thing.items())


def claim_of_floors(wants, floors):
    """What floors that are let by claim; None where they claim that there is no book."""
    look_at_wants(wants)
    return floors.get(("", 0, 0, tuple(range(len(wants)))), NOUGHT)


def are_floors(tongue, many, thing, ordered):
    """Whether it is a dict of floors for seats of the tongue and so many things."""
    if not isinstance(thing, dict) or len(thing) > MOST_SEATS:
        return False
    signs = signs_of(tongue)
    if not all(is_seat(signs, tongue[3], many, seat, ordered) for seat in thing):
        return False
    return all(floor is None or is_from_nought(floor) for floor in thing.values())


def is_seat(signs, longest, many, thing, ordered):
    """Whether it is a seat for these signs and so many things."""
    if not isinstance(thing, tuple) or len(thing) != 4:
        return False
    sign, deep, start, things = thing
    if not is_whole_within(start, 0, len(signs)):
        return False
    if sign == "":
        is_begin = is_whole_within(deep, 0, 0)
    else:
        is_begin = sign in signs and is_whole_within(deep, 1, longest - 1)
    return is_begin and are_things(many, things, ordered)


def are_things(many, thing, ordered):
    """Whether it is a rising tuple of numbers below many, for ordered books without a gap."""
    if not isinstance(thing, tuple) or len(thing) == 0:
        return False
    if not all(is_whole_within(number, 0, many - 1) for number in thing):
        return False
    steps = [later - number for number, later in zip(thing, thing[1:])]
    return all(step == 1 or (step > 1 and not ordered) for step in steps)


class FloorWalk:
    """Walks through floors of the right form; some things are masks, as in seats.py."""

    def __init__(self, tongue, wants, floors, ordered):
        self.rows = tongue[0]
        self.longest = tongue[3]
        self.comers = comers_behind(tongue)
        self.partings = {mask: partings_of(mask, ordered) for mask in masks_up_to(len(wants), ordered)}
        self.together = {mask: fraction(counts_together(wants, mask)) for mask in self.partings}
        self.floors = {}
        for (sign, deep, start, things), floor in floors.items():
            by_mask = self.floors.setdefault((sign, deep, start), {})
            by_mask[mask_of(things)] = floor
        self.takes = {}

    def is_kept(self, seat, floor):
        """Whether no way of the seat comes to less than its floor, or, of None, none is there."""
        sign, deep, start, things = seat
        # No way comes to less than nought, so such a floor is kept whatever the ways are.
        if start == len(self.rows) or floor == NOUGHT:
            return True
        takes = self.takes_at(sign, deep, start)
        rests = self.floors.get((sign, deep, start + 1), {})
        none_behind = start + 1 == len(self.rows)
        for taken, rest in self.partings[mask_of(things)]:
            one = takes.get(taken)
            other = NOUGHT if rest == 0 else None if none_behind else rests.get(rest, NOUGHT)
            if one is not None and other is not None and (floor is None or is_more(floor, one, other)):
                return False
        return True

    def takes_at(self, sign, deep, number):
        """What taken things cost by the sign of this number behind another one, by their masks; nought of none."""
        if self.rows[number][0] not in self.comers[sign]:
            return {0: NOUGHT}
        if (number, deep) not in self.takes:
            takes = {mask: self.taken_cost(number, deep, mask) for mask in self.partings}
            self.takes[(number, deep)] = {0: NOUGHT, **takes}
        return self.takes[(number, deep)]

    def taken_cost(self, number, deep, mask):
        """The lesser one of what taken things cost by ending and by going on, None where they can do neither."""
        sign, price, last = self.rows[number]
        ends = times(self.together[mask], last) if is_one(mask) and last is not None else None
        behind = None
        if deep + 1 < self.longest:
            behind = self.floors.get((sign, deep + 1, 0), {}).get(mask, NOUGHT)
        if behind is None:
            return ends
        goes = plus(times(self.together[mask], price), behind)
        return goes if ends is None or under(goes, ends) else ends


def is_more(floor, one, other):
    """Whether a floor is more than two fractions together; not brought to lowest terms, as it is asked very often."""
    return (one[0] * other[1] + other[0] * one[1]) * floor[1] < floor[0] * one[1] * other[1]
