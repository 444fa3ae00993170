"""Point 19: the cheapest book, free and ordered, with its cost and floors."""

from unittest import TestCase

from dearsigns.books import cost_of, what_is_wrong
from dearsigns.cheapest import cheapest_book
from dearsigns.errors import DearError, TooMany
from dearsigns.floors import claim_of_floors, lets_floors
from tests.helpers import as_tuple, plain_tongue, sample_tongue, sign, slow_least, small_cases, wants_for, \
    wordless_tongues

BOTH = (False, True)


class CheapestTest(TestCase):

    def look_at(self, tongue, wants, ordered):
        """The told cost, once book, cost and floors were found to go together."""
        told = cheapest_book(tongue, wants, ordered)
        self.assertIs(type(told), tuple)
        book, cost, floors = told
        self.assertIs(type(floors), dict)
        self.assertLessEqual(len(floors), 30000)
        self.assertIs(lets_floors(tongue, wants, floors, ordered), True)
        self.assertEqual(claim_of_floors(wants, floors), cost)
        if book is None:
            self.assertIsNone(cost)
        else:
            self.assertIsNone(what_is_wrong(tongue, wants, book, ordered))
            self.assertEqual(cost_of(tongue, wants, book), cost)
        return cost

    def look_at_least(self, tongue, wants, ordered):
        """Holds the told cost against going through all books."""
        least = slow_least(tongue, wants, ordered)
        told = self.look_at(tongue, wants, ordered)
        self.assertEqual(told, None if least is None else as_tuple(least), (tongue, wants, ordered))

    def test_against_all_books(self):
        for tongue, wants in small_cases():
            for ordered in BOTH:
                self.look_at_least(tongue, wants, ordered)

    def test_books_by_hand(self):
        tongue = plain_tongue("ab", 3)
        wants = [("x", 1), ("y", 1), ("z", 2)]
        self.assertEqual(self.look_at(tongue, wants, False), (6, 1))
        self.assertEqual(len(cheapest_book(tongue, wants, False)[0][2]), 1)
        self.assertEqual(cheapest_book(tongue, wants, True)[:2], (["aa", "ab", "b"], (6, 1)))
        wants = [("x", 1), ("z", 2), ("y", 1)]
        self.assertEqual(self.look_at(tongue, wants, False), (6, 1))
        self.assertEqual(self.look_at(tongue, wants, True), (7, 1))
        self.assertEqual(cheapest_book(tongue, [("x", 7)], False)[1], (7, 1))

    def test_a_longer_word_may_cost_less(self):
        tongue = ([sign("a", (1, 1), (100, 1)), sign("b", (50, 1), (2, 1))], ["b"], [], 3)
        self.assertEqual(cheapest_book(tongue, [("x", 3)], False)[:2], (["ab"], (9, 1)))
        self.assertEqual(cheapest_book(tongue, [("x", 3)], True)[:2], (["ab"], (9, 1)))

    def test_lasts_far_above_and_far_below_the_prices(self):
        far = 10 ** 9 - 1
        for price, last in (((1, far), (far, 1)), ((far, 1), (1, far)), ((1, far), None)):
            for other in ((1, 1), (far, 1), None):
                tongue = ([sign("a", price, last), sign("b", (1, 1), other), sign("c", price, (1, 2))], [], ["ac"], 2)
                for ordered in BOTH:
                    wants = [("x", 10 ** 9), ("y", 1), ("z", 0)]
                    self.look_at_least(tongue, wants, ordered)

    def test_counts_of_nought(self):
        for ordered in BOTH:
            self.assertEqual(self.look_at(sample_tongue(), [("x", 0)], ordered), (0, 1))
            self.assertEqual(self.look_at(sample_tongue(), [("x", 0), ("y", 0), ("z", 0)], ordered), (0, 1))
            self.assertIsNone(self.look_at(plain_tongue("ab", 1), [("x", 0), ("y", 0), ("z", 0)], ordered))

    def test_no_book(self):
        for ordered in BOTH:
            for tongue in wordless_tongues():
                self.assertIsNone(self.look_at(tongue, wants_for(1), ordered))
                self.assertIsNone(self.look_at(tongue, wants_for(5), ordered))
            self.assertIsNotNone(self.look_at(plain_tongue("ab", 1), wants_for(2), ordered))
            self.assertIsNone(self.look_at(plain_tongue("ab", 1), wants_for(3), ordered))
            self.assertIsNotNone(self.look_at(plain_tongue("ab", 2), wants_for(4), ordered))
            self.assertIsNone(self.look_at(plain_tongue("ab", 2), wants_for(5), ordered))
            # Two words, of which one begins the other.
            tongue = ([sign("a"), sign("b", (1, 1), None)], ["b"], ["ab"], 2)
            self.assertIsNotNone(self.look_at(tongue, wants_for(1), ordered))
            self.assertIsNone(self.look_at(tongue, wants_for(2), ordered))

    def test_no_book_is_told_as_none_none_and_floors(self):
        wants = wants_for(3)
        book, cost, floors = cheapest_book(plain_tongue("ab", 1), wants, False)
        self.assertIsNone(book)
        self.assertIsNone(cost)
        self.assertIsNone(floors[("", 0, 0, (0, 1, 2))])

    def test_most_things(self):
        tongue = sample_tongue()
        self.assertIsNotNone(self.look_at(tongue, wants_for(6), False))
        self.assertIsNotNone(self.look_at(tongue, wants_for(12), True))
        for ordered, many in ((False, 7), (False, 12), (False, 20), (True, 13), (True, 20)):
            with self.assertRaises(TooMany) as caught:
                cheapest_book(tongue, wants_for(many), ordered)
            self.assertIsInstance(caught.exception, DearError)

    def test_the_greatest_tongues(self):
        signs = [sign(letter, (997 - place, 1009), (3, 11 + 3 * place)) for place, letter in enumerate("abcdef")]
        signs = [sign(letter, price, last if letter in "ef" else None) for letter, price, last in signs]
        # Going through the words, or reckoning a seat for each way that leads there, would take years.
        for ordered, many in ((False, 6), (True, 12)):
            self.assertIsNotNone(self.look_at((signs, ["a"], ["ab"], 8), wants_for(many), ordered))

    def test_an_ordered_book_may_cost_more_never_less(self):
        for tongue, wants in small_cases(20):
            free, in_order = (cheapest_book(tongue, wants, ordered)[1] for ordered in BOTH)
            if in_order is not None:
                self.assertLessEqual(free[0] * in_order[1], in_order[0] * free[1])
