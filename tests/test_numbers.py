"""Point 4: fractions, whole numbers, names."""

from fractions import Fraction
from random import Random
from unittest import TestCase

from dearsigns.errors import NoNumber
from dearsigns.numbers import (
    fraction, is_fraction, is_name, is_whole, minus, over, plus, rising, sum_of, times, under,
)
from tests.helpers import ANYTHING, as_fraction, as_tuple

BIG = 10 ** 60 - 1


def some_wholes():
    chance = Random(4)
    small = list(range(-12, 13))
    return small + [chance.randint(-10 ** figures, 10 ** figures) for figures in (3, 9, 30, 60) for time in range(6)]


def some_fractions():
    chance = Random(5)
    made = [(0, 1), (1, 1), (-1, 1), (1, 2), (-1, 2), (2, 3), (BIG, 1), (-BIG, 1), (1, BIG), (BIG, 10 ** 59)]
    for figures in (1, 2, 9, 60):
        for time in range(6):
            made.append(as_tuple(Fraction(chance.randint(-10 ** figures, 10 ** figures),
                                          chance.randint(1, 10 ** figures - 1))))
    return made


class FractionTest(TestCase):

    def test_made_in_lowest_terms(self):
        for top in some_wholes():
            for bottom in some_wholes():
                if bottom != 0:
                    self.assertEqual(fraction(top, bottom), as_tuple(Fraction(top, bottom)))

    def test_told_examples(self):
        self.assertEqual(fraction(6, 4), (3, 2))
        self.assertEqual(fraction(6, -4), (-3, 2))
        self.assertEqual(fraction(-6, -4), (3, 2))
        self.assertEqual(fraction(0, -5), (0, 1))
        self.assertEqual(fraction(7), (7, 1))
        self.assertEqual(fraction(-7), (-7, 1))
        self.assertEqual(fraction(0), (0, 1))

    def test_is_a_tuple_of_whole_numbers(self):
        made = fraction(6, 4)
        self.assertIs(type(made), tuple)
        self.assertEqual([type(one) for one in made], [int, int])

    def test_second_number_of_nought_is_refused(self):
        for top in some_wholes():
            with self.assertRaises(NoNumber):
                fraction(top, 0)

    def test_anything_else_is_refused(self):
        for thing in ANYTHING:
            if type(thing) is not int:
                for top, bottom in ((thing, 1), (1, thing), (thing, thing), (thing, 0), (0, thing)):
                    with self.assertRaises(NoNumber):
                        fraction(top, bottom)
                with self.assertRaises(NoNumber):
                    fraction(thing)


class ReckoningTest(TestCase):

    def test_two_fractions(self):
        for one in some_fractions():
            for other in some_fractions():
                first, second = as_fraction(one), as_fraction(other)
                self.assertEqual(plus(one, other), as_tuple(first + second))
                self.assertEqual(minus(one, other), as_tuple(first - second))
                self.assertEqual(times(one, other), as_tuple(first * second))
                self.assertIs(under(one, other), first < second)
                if second != 0:
                    self.assertEqual(over(one, other), as_tuple(first / second))

    def test_parting_by_nought_is_refused(self):
        for one in some_fractions():
            with self.assertRaises(NoNumber):
                over(one, (0, 1))

    def test_told_answers_are_fractions(self):
        for one in some_fractions():
            for other in some_fractions():
                told = [plus(one, other), minus(one, other), times(one, other)]
                told += [over(one, other)] if other != (0, 1) else []
                self.assertTrue(all(is_fraction(each) for each in told))

    def test_none_is_under_itself(self):
        for one in some_fractions():
            self.assertIs(under(one, one), False)

    def test_sum(self):
        self.assertEqual(sum_of([]), (0, 1))
        self.assertEqual(sum_of([(-3, 4)]), (-3, 4))
        self.assertEqual(sum_of([(1, 2), (1, 3), (1, 6)]), (1, 1))
        self.assertEqual(sum_of([(1, 2), (-1, 2)]), (0, 1))
        made = some_fractions()
        self.assertEqual(sum_of(made), as_tuple(sum([as_fraction(one) for one in made])))

    def test_sum_leaves_its_list(self):
        made = [(1, 2), (1, 3)]
        sum_of(made)
        self.assertEqual(made, [(1, 2), (1, 3)])
        made.append((1, 6))
        self.assertEqual(sum_of(made), (1, 1))

    def test_rising(self):
        made = some_fractions()
        again = list(made)
        self.assertEqual(rising(made), sorted(made, key=as_fraction))
        self.assertEqual(made, again)
        self.assertEqual(rising([]), [])


class KindsTest(TestCase):

    def test_whole(self):
        for thing in (0, 1, -1, 10 ** 60, -BIG):
            self.assertIs(is_whole(thing), True)
        for thing in ANYTHING:
            self.assertIs(is_whole(thing), type(thing) is int)

    def test_fractions(self):
        for thing in some_fractions():
            self.assertIs(is_fraction(thing), True)

    def test_no_fractions(self):
        wrong = [(2, 4), (0, 2), (-2, 4), (1, 0), (0, 0), (1, -1), (0, -1), (True, 1), (1, True), (False, 1), (1,),
                 (1, 1, 1), [1, 2], "1/2", ("1", 2), (1, "2"), (None, 1), (1, None), ((1, 1), 1), (1, (1, 1)), 1, 0,
                 {1: 2}, (BIG, BIG), (3 * 10 ** 58, 9)]
        for thing in wrong + [thing for thing in ANYTHING if thing != (1, 2)]:
            self.assertIs(is_fraction(thing), False)

    def test_names(self):
        for thing in ("a", "z", "name", "abcdefgh", "zzzzzzzz"):
            self.assertIs(is_name(thing), True)
        wrong = ["", "abcdefghi", "A", "aB", "a1", "a b", " a", "a\n", "`", "{", "a" * 3000, ["a"], ("a",), None, True,
                 1, {"a": 1}]
        for thing in wrong + [thing for thing in ANYTHING if thing not in ("a", "ab")]:
            self.assertIs(is_name(thing), False)
