"""Point 31: all books of few things, and what they cost."""

from fractions import Fraction
from unittest import TestCase

from dearsigns.allbooks import all_books, costs_of_all
from dearsigns.books import cost_of, what_is_wrong
from dearsigns.cheapest import cheapest_book
from dearsigns.counting import books_many
from dearsigns.errors import DearError, NoTongue, NoWants, TooMany
from tests.helpers import as_fraction, as_tuple, costed_books, great_tongue, plain_tongue, slow_books, \
    slow_is_ordered, small_cases, spoilt_tongues, spoilt_wants, tongue_of_5000_words, tongue_of_5001_words, \
    tongue_with, wants_for, wordless_tongues

BOTH = (False, True)

# (things, ordered, tongue): tongues with just 3000 books for so many things, and such with a few more.
JUST_3000 = [
    (1, False, tongue_with("abcde", "d", ["b", "e"],
                           ["aa", "ab", "ad", "ba", "bc", "bd", "cb", "da", "db", "dd", "de"], 7)),
    (2, False, tongue_with("abcd", "", ["b"], ["ba", "bd"], 3)),
    (3, False, tongue_with("abc", "c", ["c"], [], 3)),
    (3, True, tongue_with("abc", "bc", ["a"], ["ab", "ac", "bb", "bc"], 6)),
    (4, True, tongue_with("abcd", "", [], ["aa", "ac", "ba", "bb", "bc", "ca", "cd", "da", "dd"], 3)),
    (5, True, tongue_with("abcde", "ae", ["a", "d"],
                          ["aa", "ab", "ad", "ae", "bb", "bc", "bd", "be", "ca", "cc", "cd", "ce", "da", "db", "dd",
                           "ed", "ee"], 8)),
]
A_FEW_MORE = [
    (1, False, 3001, tongue_with("abcde", "de", ["a", "c", "e"], ["be", "dd"], 6)),
    (1, True, 3001, tongue_with("abcde", "de", ["a", "c", "e"], ["be", "dd"], 6)),
    (2, True, 3001, tongue_with("abcdef", "ae", ["b", "c"], ["ad", "bb", "bc", "cf", "dc", "eb"], 3)),
    (2, False, 3002, tongue_with("abcdef", "cde", ["b"],
                                 ["aa", "ad", "ae", "bb", "bc", "bd", "ca", "cc", "cf", "db", "fb"], 3)),
    (3, True, 3001, tongue_with("abcd", "", ["b"],
                                ["aa", "ab", "ac", "ad", "bb", "cb", "cc", "cd", "da", "dc"], 5)),
    (5, False, 3120, tongue_with("abc", "b", ["c"], ["ba", "bb", "ca", "cb", "cc"], 4)),
]


class AllBooksTest(TestCase):

    def test_against_going_through_all_rows_of_words(self):
        for tongue, wants in small_cases(80):
            books = slow_books(tongue, len(wants))
            for ordered in BOTH:
                fit = sorted(book for book in books if not ordered or slow_is_ordered(tongue, book))
                if len(fit) <= 3000:
                    self.assertEqual(all_books(tongue, len(wants), ordered), fit)

    def test_books_by_hand(self):
        tongue = plain_tongue("ba", 2)
        # The signs' order is b, a; the list is sorted by letters.
        self.assertEqual(all_books(tongue, 1, False), [["a"], ["aa"], ["ab"], ["b"], ["ba"], ["bb"]])
        self.assertEqual(all_books(tongue, 1, True), all_books(tongue, 1, False))
        self.assertEqual(all_books(tongue, 4, True), [["bb", "ba", "ab", "aa"]])
        self.assertEqual(len(all_books(tongue, 4, False)), 24)
        self.assertEqual(all_books(tongue, 4, False)[0], ["aa", "ab", "ba", "bb"])
        self.assertEqual(all_books(plain_tongue("ba", 1), 2, True), [["b", "a"]])
        self.assertEqual(all_books(plain_tongue("ba", 1), 2, False), [["a", "b"], ["b", "a"]])

    def test_no_books(self):
        for ordered in BOTH:
            for tongue in wordless_tongues():
                for many in range(1, 6):
                    self.assertEqual(all_books(tongue, many, ordered), [])
                self.assertEqual(costs_of_all(tongue, wants_for(2), ordered), [])
            self.assertEqual(all_books(plain_tongue("ab", 1), 3, ordered), [])
            self.assertEqual(costs_of_all(plain_tongue("ab", 1), wants_for(3), ordered), [])

    def test_just_3000_books(self):
        for many, ordered, tongue in JUST_3000:
            books = all_books(tongue, many, ordered)
            self.assertEqual(len(books), 3000)
            self.assertEqual(books, sorted(books))
            self.assertEqual(len({tuple(book) for book in books}), 3000)
            for book in books[::50]:
                self.assertIsNone(what_is_wrong(tongue, wants_for(many), book, ordered))
            self.assertEqual(sum(many for cost, many in costs_of_all(tongue, wants_for(many), ordered)), 3000)

    def test_a_few_more(self):
        for many, ordered, real, tongue in A_FEW_MORE:
            self.assertEqual(books_many(tongue, many, ordered), real)
            with self.assertRaises(TooMany) as caught:
                all_books(tongue, many, ordered)
            self.assertIsInstance(caught.exception, DearError)
            with self.assertRaises(TooMany):
                costs_of_all(tongue, wants_for(many), ordered)

    def test_tongues_of_many_words(self):
        for tongue in (tongue_of_5000_words(), tongue_of_5001_words(), great_tongue(), plain_tongue("abcdef", 8)):
            for ordered in BOTH:
                for many in range(1, 6):
                    with self.assertRaises(TooMany):
                        all_books(tongue, many, ordered)
                    with self.assertRaises(TooMany):
                        costs_of_all(tongue, wants_for(many), ordered)

    def test_few_books_of_many_chains(self):
        # Words that begin one another: many words, few books.
        letters = "abcdef"
        pairs = [one + other for one in letters for other in letters if one != other]
        for many in (3, 4):
            tongue = tongue_with(letters, "", list(letters[many:]), pairs, 8)
            self.assertEqual(all_books(tongue, 5, True), [])
            self.assertEqual(books_many(tongue, many, True), 8 ** many)
            if many == 3:
                self.assertEqual(len(all_books(tongue, many, True)), 512)


class CostsTest(TestCase):

    def test_against_cost_of(self):
        for tongue, wants in small_cases(60):
            for ordered in BOTH:
                if books_many(tongue, len(wants), ordered) > 3000:
                    continue
                costs = [as_fraction(cost_of(tongue, wants, book)) for book in all_books(tongue, len(wants), ordered)]
                told = costs_of_all(tongue, wants, ordered)
                self.assertEqual(told, [(as_tuple(cost), costs.count(cost)) for cost in sorted(set(costs))])
                slow = [cost for book, cost in costed_books(tongue, wants, ordered)]
                self.assertEqual(sorted(slow), sorted(costs))
                self.assertEqual(told[0][0] if told else None, cheapest_book(tongue, wants, ordered)[1])

    def test_costs_by_hand(self):
        tongue = plain_tongue("ab", 2)
        self.assertEqual(costs_of_all(tongue, [("x", 3)], False), [((3, 1), 2), ((6, 1), 4)])
        self.assertEqual(costs_of_all(tongue, [("x", 0)], True), [((0, 1), 6)])
        self.assertEqual(costs_of_all(tongue, [("x", 1), ("y", 2)], True),
                         [((3, 1), 1), ((4, 1), 2), ((5, 1), 2), ((6, 1), 6)])
        self.assertIs(type(costs_of_all(tongue, [("x", 3)], False)[0]), tuple)

    def test_five_things_and_six(self):
        tongue = tongue_with("abcde", "", [], [], 1)
        for ordered in BOTH:
            told = costs_of_all(tongue, wants_for(5), ordered)
            self.assertEqual(told, [((15, 1), 1 if ordered else 120)])
            for many in (6, 7, 20):
                for there in (tongue, wordless_tongues()[0], plain_tongue("abcdef", 1)):
                    with self.assertRaises(TooMany) as caught:
                        costs_of_all(there, wants_for(many), ordered)
                    self.assertIsInstance(caught.exception, DearError)

    def test_which_refusal_comes_first(self):
        for thing, part in spoilt_tongues():
            for function, rest in ((all_books, [9, False]), (costs_of_all, [None, True]),
                                   (costs_of_all, [wants_for(6), True])):
                with self.assertRaises(NoTongue) as caught:
                    function(thing, *rest)
                self.assertEqual(caught.exception.part, part)
        for thing, number in spoilt_wants():
            with self.assertRaises(NoWants) as caught:
                costs_of_all(great_tongue(), thing, False)
            self.assertEqual(caught.exception.number, number)

    def test_greatest_counts_and_prices(self):
        tongue = ([("a", (1, 999999999), (999999999, 2)), ("b", (999999998, 3), (1, 7))], [], [], 2)
        wants = [("x", 10 ** 9), ("y", 1), ("z", 0)]
        told = costs_of_all(tongue, wants, False)
        slow = [cost for book, cost in costed_books(tongue, wants, False)]
        self.assertEqual([as_fraction(cost) for cost, many in told], sorted(set(slow)))
        self.assertEqual(sum(many for cost, many in told), len(slow))
        self.assertGreater(as_fraction(told[-1][0]), Fraction(10 ** 17))
