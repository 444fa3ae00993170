"""Points 16 to 18: seats, which floors are let by, and what they claim."""

from fractions import Fraction
from itertools import combinations
from random import Random
from unittest import TestCase

from dearsigns.cheapest import cheapest_book
from dearsigns.errors import DearError, TooMany
from dearsigns.floors import claim_of_floors, lets_floors
from tests.helpers import ANYTHING, as_fraction, as_tuple, plain_tongue, sign, slow_least, small_cases, wants_for

BOTH = (False, True)


def ways_of(tongue, wants, floors, ordered, seat):
    """What each way that is there comes to, slowly, as the document tells it."""
    rows, firsts, pairs, longest = tongue
    ahead, deep, start, things = seat
    if start == len(rows):
        return []
    letter, price, last = rows[start]
    may_come = letter not in firsts if ahead == "" else ahead + letter not in pairs
    ways = []
    for size in range(len(things) + 1):
        for taken in [things[:size]] if ordered else combinations(things, size):
            rest = tuple(number for number in things if number not in taken)
            count = sum(wants[number][1] for number in taken)
            choices = [] if taken else [Fraction(0)]
            if len(taken) == 1 and may_come and last is not None:
                choices.append(count * as_fraction(last))
            behind = floors.get((letter, deep + 1, 0, taken), (0, 1))
            if taken and may_come and deep + 1 < longest and behind is not None:
                choices.append(count * as_fraction(price) + as_fraction(behind))
            others = floors.get((ahead, deep, start + 1, rest), (0, 1)) if rest else (0, 1)
            if rest and start + 1 == len(rows):
                others = None
            if choices and others is not None:
                ways.append(min(choices) + as_fraction(others))
    return ways


def slow_lets(tongue, wants, floors, ordered):
    """Whether floors of the right form are let by."""
    for seat, floor in floors.items():
        ways = ways_of(tongue, wants, floors, ordered, seat)
        if ways if floor is None else any(as_fraction(floor) > way for way in ways):
            return False
    return True


def all_seats(tongue, many, ordered):
    """All seats for so many things, those too whose from is the number of signs."""
    begins = [("", 0)] + [(row[0], deep) for row in tongue[0] for deep in range(1, tongue[3])]
    if ordered:
        somes = [tuple(range(start, end)) for end in range(many + 1) for start in range(end)]
    else:
        somes = [some for size in range(1, many + 1) for some in combinations(range(many), size)]
    return [(letter, deep, start, some) for letter, deep in begins for start in range(len(tongue[0]) + 1)
            for some in somes]


class LetsFloorsTest(TestCase):

    def test_floors_by_hand(self):
        tongue = ([sign("a", (1, 1), (2, 1)), sign("b", (3, 1), (4, 1))], [], [], 2)
        wants = [("x", 1), ("y", 10)]
        self.assertIs(lets_floors(tongue, wants, {}, False), True)
        # Both things go on behind "b", and nothing is known of the seat there.
        self.assertIs(lets_floors(tongue, wants, {("", 0, 1, (0, 1)): (33, 1)}, False), True)
        self.assertIs(lets_floors(tongue, wants, {("", 0, 1, (0, 1)): (3301, 100)}, False), False)
        # Behind "a" the rest may be all, at a seat of which nothing is known.
        self.assertIs(lets_floors(tongue, wants, {("", 0, 0, (0, 1)): (1, 10 ** 50)}, False), False)
        # One thing alone ends with "b", or goes on behind it.
        alone = ("", 0, 1, (0,))
        self.assertIs(lets_floors(tongue, wants, {alone: (3, 1)}, False), True)
        self.assertIs(lets_floors(tongue, wants, {alone: (301, 100)}, False), False)
        floors = {("b", 1, 1, (0,)): (4, 1), ("b", 1, 0, (0,)): (2, 1), alone: (4, 1)}
        self.assertIs(lets_floors(tongue, wants, floors, False), True)
        for seat in floors:
            fewer = {other: floors[other] for other in floors if other != seat}
            self.assertIs(lets_floors(tongue, wants, fewer, False), seat == alone)

    def test_the_told_floors_of_a_small_tongue_by_hand(self):
        tongue = ([sign("a", (1, 1), (2, 1)), sign("b", (3, 1), None)], [], ["aa", "ab"], 2)
        wants = [("x", 5), ("y", 1)]
        floors = {
            ("a", 1, 0, (0,)): None, ("a", 1, 0, (1,)): None, ("a", 1, 0, (0, 1)): None,
            ("a", 1, 1, (0,)): None, ("a", 1, 1, (1,)): None, ("a", 1, 1, (0, 1)): None,
            ("b", 1, 0, (0,)): (10, 1), ("b", 1, 0, (1,)): (2, 1), ("b", 1, 0, (0, 1)): None,
            ("b", 1, 1, (0,)): None, ("b", 1, 1, (1,)): None, ("b", 1, 1, (0, 1)): None,
            ("", 0, 1, (0,)): (25, 1), ("", 0, 1, (1,)): (5, 1), ("", 0, 1, (0, 1)): None,
            ("", 0, 0, (0,)): (10, 1), ("", 0, 0, (1,)): (2, 1), ("", 0, 0, (0, 1)): (15, 1),
        }
        self.assertIs(lets_floors(tongue, wants, floors, False), True)
        self.assertEqual(claim_of_floors(wants, floors), (15, 1))
        for seat, floor in floors.items():
            if floor is not None:
                raised = {**floors, seat: as_tuple(as_fraction(floor) + Fraction(1, 10 ** 50))}
                self.assertIs(lets_floors(tongue, wants, raised, False), False)
                self.assertIs(lets_floors(tongue, wants, {**floors, seat: None}, False), False)
        # Ordered books with the dear thing behind the cheap one cost more.
        dearer = {seat: floor for seat, floor in floors.items() if seat != ("", 0, 0, (0, 1))}
        dearer[("", 0, 0, (0, 1))] = (27, 1)
        self.assertIs(lets_floors(tongue, [("x", 1), ("y", 5)], swapped(dearer), True), True)
        self.assertIs(lets_floors(tongue, [("x", 1), ("y", 5)], swapped(dearer), False), False)

    def test_the_taken_ones_of_ordered_books_are_the_first_ones(self):
        tongue = ([sign("a", (1, 1), (1, 1)), sign("b", (1, 1), (9, 1))], [], [], 1)
        wants = [("x", 1), ("y", 2)]
        floors = {("", 0, 1, (0,)): (9, 1), ("", 0, 1, (1,)): (18, 1), ("", 0, 1, (0, 1)): None}
        root = ("", 0, 0, (0, 1))
        self.assertIs(lets_floors(tongue, wants, {**floors, root: (19, 1)}, True), True)
        self.assertIs(lets_floors(tongue, wants, {**floors, root: (20, 1)}, True), False)
        self.assertIs(lets_floors(tongue, wants, {**floors, root: (19, 1)}, False), False)
        self.assertIs(lets_floors(tongue, wants, {**floors, root: (11, 1)}, False), True)

    def test_told_floors_with_one_changed(self):
        chance = Random(17)
        seen = {True: 0, False: 0}
        for tongue, wants in small_cases(30, 3):
            for ordered in BOTH:
                floors = cheapest_book(tongue, wants, ordered)[2]
                self.assertIs(lets_floors(tongue, wants, floors, ordered), True)
                self.assertTrue(slow_lets(tongue, wants, floors, ordered))
                for step in range(12):
                    changed = changed_floors(chance, tongue, len(wants), floors, ordered)
                    told = lets_floors(tongue, wants, changed, ordered)
                    self.assertIs(told, slow_lets(tongue, wants, changed, ordered), (tongue, wants, changed, ordered))
                    seen[told] += 1
        self.assertGreater(min(seen.values()), 100)

    def test_told_floors_with_one_raised_a_little(self):
        for tongue, wants in small_cases(12, 3):
            for ordered in BOTH:
                floors = cheapest_book(tongue, wants, ordered)[2]
                for seat in list(floors)[::3]:
                    ways = ways_of(tongue, wants, floors, ordered, seat)
                    if ways:
                        raised = {**floors, seat: as_tuple(min(ways) + Fraction(1, 10 ** 58))}
                        self.assertIs(lets_floors(tongue, wants, raised, ordered), False)

    def test_floors_by_chance_claim_no_more_than_the_cheapest(self):
        chance = Random(18)
        let_by = 0
        for tongue, wants in small_cases(30, 3):
            for ordered in BOTH:
                least = slow_least(tongue, wants, ordered)
                seats = all_seats(tongue, len(wants), ordered)
                for step in range(20):
                    floors = {}
                    for seat in sorted(seats, key=lambda one: (-one[1], -one[2]))[chance.choice([0, 0, 40]):]:
                        floors[seat] = floor_by_chance(chance, ways_of(tongue, wants, floors, ordered, seat))
                    told = lets_floors(tongue, wants, floors, ordered)
                    self.assertIs(told, slow_lets(tongue, wants, floors, ordered))
                    claim = claim_of_floors(wants, floors)
                    if told:
                        let_by += 1
                        self.assertTrue(least is None or claim is not None and as_fraction(claim) <= least)
        self.assertGreater(let_by, 500)

    def test_a_seat_that_is_no_key_has_the_floor_nought(self):
        tongue, wants = plain_tongue("ab", 3), wants_for(2)
        self.assertIs(lets_floors(tongue, wants, {("a", 1, 0, (0,)): (1, 10 ** 50)}, False), False)
        self.assertIs(lets_floors(tongue, wants, {("a", 1, 0, (0,)): None}, False), False)
        self.assertIs(lets_floors(tongue, wants, {("a", 1, 1, (0, 1)): (3, 1)}, False), True)
        self.assertIs(lets_floors(tongue, wants, {("a", 1, 1, (0, 1)): (31, 10)}, False), False)
        self.assertIs(lets_floors(tongue, wants, {("a", 1, 1, (0, 1)): None}, False), False)
        self.assertIs(lets_floors(tongue, wants, {("a", 2, 1, (0, 1)): None}, False), True)

    def test_a_seat_whose_from_is_the_number_of_signs_has_no_ways(self):
        tongue, wants = plain_tongue("abc", 3), wants_for(2)
        for seat in (("", 0, 3, (0, 1)), ("a", 1, 3, (0,)), ("c", 2, 3, (1,))):
            for floor in (None, (0, 1), (10 ** 59, 1)):
                for ordered in BOTH:
                    self.assertIs(lets_floors(tongue, wants, {seat: floor}, ordered), True)
            self.assertIs(lets_floors(tongue, wants, {(*seat[:2], 4, seat[3]): (0, 1)}, False), False)
        # No way leads there: the rest can't be behind the last sign.
        floors = {("", 0, 2, (0, 1)): None, ("c", 1, 0, (0, 1)): None, ("", 0, 3, (0,)): (0, 1), ("", 0, 3, (1,)): None}
        floors.update({("c", deep, start, (0, 1)): None for deep in (1, 2) for start in (0, 1, 2)})
        narrow = (*tongue[:2], ["ca", "cb"], 3)
        for ordered in BOTH:
            self.assertIs(lets_floors(narrow, wants, floors, ordered), True)
            self.assertIs(lets_floors(tongue, wants, floors, ordered), False)

    def test_none_is_let_by_just_where_no_way_is_there(self):
        tongue = ([sign("a", (1, 1), None), sign("b", (1, 1), None)], [], [], 2)
        floors = {(letter, 1, start, (0,)): None for letter in "ab" for start in (0, 1)}
        floors.update({("", 0, start, (0,)): None for start in (0, 1)})
        for ordered in BOTH:
            self.assertIs(lets_floors(tongue, [("x", 0)], floors, ordered), True)
            for seat in floors:
                fewer = {other: floors[other] for other in floors if other != seat}
                self.assertIs(lets_floors(tongue, [("x", 0)], fewer, ordered), seat == ("", 0, 0, (0,)))

    def test_at_most_30000_seats(self):
        letters = "abcdef"
        tongue = plain_tongue(letters, 8)
        wants = wants_for(8)
        seats = all_seats(tongue, 8, False)
        self.assertGreater(len(seats), 60000)
        floors = {seat: (0, 1) for seat in seats[:30000]}
        self.assertIs(lets_floors(tongue, wants, floors, False), True)
        floors[seats[30000]] = (0, 1)
        self.assertIs(lets_floors(tongue, wants, floors, False), False)
        floors = {seat: (1, 10 ** 50 - seat[2]) for seat in seats[-30000:]}
        self.assertIs(lets_floors(tongue, wants, floors, False), True)

    def test_sizes(self):
        tongue = plain_tongue("abc", 3)
        for thing in ({}, {("", 0, 0, (0,)): (0, 1)}, None, [], {1: 1}):
            good = isinstance(thing, dict) and 1 not in thing
            for many, ordered in ((8, False), (8, True), (9, True), (12, True), (1, False), (1, True)):
                self.assertIs(lets_floors(tongue, wants_for(many), thing, ordered), good)
            for many, ordered in ((9, False), (12, False), (20, False), (13, True), (20, True)):
                with self.assertRaises(TooMany) as caught:
                    lets_floors(tongue, wants_for(many), thing, ordered)
                self.assertIsInstance(caught.exception, DearError)

    def test_eight_and_twelve_things(self):
        tongue = plain_tongue("ab", 4)
        for many, ordered in ((8, False), (12, True)):
            wants = wants_for(many)
            floors = slow_floors(tongue, wants, ordered)
            self.assertIs(lets_floors(tongue, wants, floors, ordered), True)
            claim = claim_of_floors(wants, floors)
            self.assertGreater(as_fraction(claim), 3 * sum(count for name, count in wants) - wants[-1][1] * 3)
            root = ("", 0, 0, tuple(range(many)))
            floors[root] = as_tuple(as_fraction(claim) + Fraction(1, 10 ** 9))
            self.assertIs(lets_floors(tongue, wants, floors, ordered), False)


def swapped(floors):
    """Floors for two things that change their places."""
    return {(letter, deep, start, tuple(sorted(1 - number for number in things))): floor
            for (letter, deep, start, things), floor in floors.items()}


def changed_floors(chance, tongue, many, floors, ordered):
    """The floors with some taken away, raised, lowered or made None."""
    changed = dict(floors)
    for step in range(chance.randint(1, 2)):
        seat = chance.choice(all_seats(tongue, many, ordered))
        deed = chance.randrange(5)
        if deed == 0:
            changed.pop(seat, None)
        elif deed == 1:
            changed[seat] = None
        elif deed == 2:
            changed[seat] = (0, 1)
        else:
            old = as_fraction(changed.get(seat) or (1, 1))
            changed[seat] = as_tuple(max(Fraction(0), old + chance.choice([-1, 1]) * Fraction(1, 1000)))
    return changed


def floor_by_chance(chance, ways):
    """A floor that is right, seldom one that is not."""
    wrong = chance.random() < 0.01
    if not ways:
        return chance.choice([None, (3, 1), (0, 1)])
    if chance.random() < 0.4:
        return (0, 1)
    return as_tuple(min(ways) * (2 if wrong else chance.choice([1, 1, Fraction(1, 2)])))


def slow_floors(tongue, wants, ordered):
    """The greatest floors for all seats."""
    floors = {}
    for seat in sorted(all_seats(tongue, len(wants), ordered), key=lambda one: (-one[1], -one[2])):
        ways = ways_of(tongue, wants, floors, ordered, seat)
        floors[seat] = as_tuple(min(ways)) if ways else None
    return floors


class AnythingTest(TestCase):

    tongue = plain_tongue("dab", 3)
    wants = wants_for(4)
    good = ("a", 1, 0, (0, 1))

    def lets(self, thing, ordered=False):
        told = lets_floors(self.tongue, self.wants, thing, ordered)
        self.assertIs(type(told), bool)
        return told

    def test_no_dict(self):
        for ordered in BOTH:
            for thing in ANYTHING:
                self.assertIs(self.lets(thing, ordered), thing == {} and isinstance(thing, dict))
            for thing in ([self.good], (self.good, (0, 1)), [(self.good, (0, 1))]):
                self.assertIs(self.lets(thing, ordered), False)

    def test_keys(self):
        for key in (self.good, ("", 0, 0, (0,)), ("", 0, 3, (3,)), ("b", 2, 3, (0, 1, 2, 3)), ("d", 1, 2, (1, 2))):
            for ordered in BOTH:
                self.assertIs(self.lets({key: (0, 1)}, ordered), True)
        keys = [thing for thing in ANYTHING if can_be_a_key(thing)] + [
            (), ("a",), ("a", 1, 0), (*self.good, 0), (self.good,), "a", "", 0, None, True,
            ("", 1, 0, (0,)), ("a", 0, 0, (0,)), ("a", 3, 0, (0,)), ("a", -1, 0, (0,)), ("a", 8, 0, (0,)),
            ("", -1, 0, (0,)), ("", None, 0, (0,)), ("c", 1, 0, (0,)), ("ab", 1, 0, (0,)), ("A", 1, 0, (0,)),
            (None, 1, 0, (0,)), (1, 1, 0, (0,)), (("a",), 1, 0, (0,)), (None, 0, 0, (0,)), (0, 0, 0, (0,)),
            (False, 0, 0, (0,)),
            ("a", True, 0, (0,)), ("", False, 0, (0,)), ("a", "1", 0, (0,)), ("a", (1, 1), 0, (0,)),
            ("a", 1, -1, (0,)), ("a", 1, 4, (0,)), ("a", 1, 10 ** 59, (0,)), ("a", 1, False, (0,)),
            ("a", 1, True, (0,)), ("a", 1, None, (0,)), ("a", 1, "0", (0,)), ("a", 1, (0, 1), (0,)),
            ("a", 1, 0, ()), ("a", 1, 0, 0), ("a", 1, 0, None), ("a", 1, 0, "0"), ("a", 1, 0, ((0,),)),
            ("a", 1, 0, (4,)), ("a", 1, 0, (-1,)), ("a", 1, 0, (0, 4)), ("a", 1, 0, (-1, 0)), ("a", 1, 0, (10 ** 59,)),
            ("a", 1, 0, (0, 0)), ("a", 1, 0, (1, 0)), ("a", 1, 0, (0, 2, 1)), ("a", 1, 0, (0, 1, 1)),
            ("a", 1, 0, (True,)), ("a", 1, 0, (False, 1)), ("a", 1, 0, (0, True)), ("a", 1, 0, (None,)),
            ("a", 1, 0, ("0",)), ("a", 1, 0, (0, None)), ("a", 1, 0, (0, (1,))), ("a", 1, 0, (0, 1, 2, 3, 4)),
        ]
        for key in keys:
            for ordered in BOTH:
                for value in ((0, 1), None, (1, 1)):
                    self.assertIs(self.lets({key: value}, ordered), False, key)
                    self.assertIs(self.lets({("b", 1, 0, (2, 3)): (0, 1), key: value}, ordered), False, key)

    def test_things_with_a_gap(self):
        for things in ((0, 2), (1, 3), (0, 1, 3), (0, 3)):
            self.assertIs(self.lets({("a", 1, 0, things): (0, 1)}, False), True)
            self.assertIs(self.lets({("a", 1, 0, things): (0, 1)}, True), False)

    def test_deep_below_longest(self):
        tongue = plain_tongue("ab", 1)
        self.assertIs(lets_floors(tongue, self.wants, {("a", 1, 0, (0,)): (0, 1)}, False), False)
        self.assertIs(lets_floors(tongue, self.wants, {("", 0, 1, (0,)): (1, 1)}, False), True)
        self.assertIs(lets_floors(tongue, self.wants, {("", 0, 1, (0,)): (2, 1)}, False), False)

    def test_values(self):
        for value in ((0, 1), (1, 1), (1, 10 ** 59)):
            self.assertIs(self.lets({("", 0, 2, (0, 1)): value}), True)
        values = [thing for thing in ANYTHING if thing is not None and thing != (1, 2) or thing is True] + [
            0, 1, (2, 2), (0, 2), (1, 0), (-1, 1), (-1, 7), (1, -1), (True, 1), (1, True), (False, 1), [0, 1], (0,),
            (0, 1, 1), ("0", 1), (None, 1), ((0, 1), 1), "0", "-", [], {}, [None]]
        for value in values:
            for ordered in BOTH:
                for seat in (self.good, ("", 0, 3, (0,)), ("", 0, 0, (0, 1, 2, 3))):
                    self.assertIs(self.lets({seat: value}, ordered), False, value)
                    self.assertIs(self.lets({("b", 1, 0, (0,)): (0, 1), seat: value}, ordered), False, value)


def can_be_a_key(thing):
    """Whether it is of no lists and dicts, and not too many tuples within one another."""
    written = repr(thing)
    return "[" not in written and "{" not in written and written.count("(") <= 8


class ClaimTest(TestCase):

    def test_claims(self):
        wants = wants_for(3)
        root = ("", 0, 0, (0, 1, 2))
        self.assertEqual(claim_of_floors(wants, {}), (0, 1))
        self.assertEqual(claim_of_floors(wants, {root: (7, 3)}), (7, 3))
        self.assertIsNone(claim_of_floors(wants, {root: None}))
        self.assertEqual(claim_of_floors(wants, {("", 0, 0, (0, 1)): (7, 3), ("", 0, 1, (0, 1, 2)): None}), (0, 1))
        self.assertEqual(claim_of_floors(wants_for(1), {("", 0, 0, (0,)): (1, 2), root: (5, 1)}), (1, 2))
