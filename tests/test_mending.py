"""Point 28: mends of elder books."""

from fractions import Fraction
from random import Random
from unittest import TestCase

from dearsigns.books import cost_of, what_is_wrong
from dearsigns.cheapest import cheapest_book
from dearsigns.errors import DearError, TooMany
from dearsigns.mending import mend
from tests.helpers import as_fraction, as_tuple, costed_books, great_tongue, plain_tongue, sample_tongue, sign, \
    slow_words, small_cases, some_price, wants_for, wordless_tongues

BOTH = (False, True)


def slow_changed(elder, book):
    return [number for number, word in enumerate(book) if word != elder[number]]


class MendingTest(TestCase):

    def look_at(self, tongue, wants, elder, slack, ordered):
        """The told mend, once book, cost and changed were found to go together."""
        told = mend(tongue, wants, elder, slack, ordered)
        if told is None:
            return None
        self.assertIs(type(told), tuple)
        book, cost, changed = told
        self.assertIsNone(what_is_wrong(tongue, wants, book, ordered))
        self.assertEqual(cost_of(tongue, wants, book), cost)
        self.assertEqual(changed, slow_changed(elder, book))
        return told

    def look_at_best(self, tongue, wants, elder, slack, ordered, books):
        """How many are changed, held against going through all books; None where there is none."""
        told = self.look_at(tongue, wants, elder, as_tuple(slack), ordered)
        if not books:
            self.assertIsNone(told)
            return None
        most = min(cost for book, cost in books) + slack
        best = min((len(slow_changed(elder, book)), cost) for book, cost in books if cost <= most)
        self.assertEqual((len(told[2]), as_fraction(told[1])), best, (tongue, wants, elder, slack, ordered))
        return len(told[2])

    def some_elder(self, chance, words, books, many):
        """An elder book, right or wrong, with None for some things."""
        if books and chance.random() < 0.6:
            elder = list(chance.choice(books)[0])
        else:
            elder = [chance.choice([*words, *words, "", "q", "aa"]) for number in range(many)]
        return [None if chance.random() < 0.2 else text for text in elder]

    def test_against_all_books(self):
        chance = Random(28)
        seen = {}
        for tongue, wants in small_cases(60):
            words = slow_words(tongue)
            for ordered in BOTH:
                books = costed_books(tongue, wants, ordered)
                costs = [cost for book, cost in books] or [Fraction(0)]
                for step in range(8):
                    elder = self.some_elder(chance, words, books, len(wants))
                    small = as_fraction(some_price(chance))
                    just = chance.choice(costs) - min(costs)
                    for slack in (Fraction(0), small, just, abs(just - Fraction(1, 10 ** 9)), Fraction(10 ** 9)):
                        changed = self.look_at_best(tongue, wants, elder, slack, ordered, books)
                        seen[changed] = seen.get(changed, 0) + 1
        self.assertEqual(set(seen), {None, 0, 1, 2, 3, 4})
        self.assertGreater(min(seen.values()), 15)

    def test_mends_by_hand(self):
        tongue = plain_tongue("ab", 3)
        wants = [("x", 1), ("y", 5), ("z", 2)]
        # The cheapest one costs 11.
        self.assertEqual(cheapest_book(tongue, wants, False)[1], (11, 1))
        elder = ["a", "ba", "bb"]
        self.assertEqual(mend(tongue, wants, elder, (4, 1), False), (elder, (15, 1), []))
        self.assertEqual(mend(tongue, wants, elder, (39, 10), False)[1:], ((11, 1), [0, 1]))
        self.assertEqual(mend(tongue, wants, elder, (0, 1), False), (["ba", "a", "bb"], (11, 1), [0, 1]))
        self.assertEqual(mend(tongue, wants, ["b", "b", "b"], (0, 1), False)[2], [0, 2])
        self.assertEqual(mend(tongue, wants, [None, "a", None], (0, 1), False)[2], [0, 2])
        self.assertEqual(mend(tongue, wants, [None, None, None], (99, 1), False)[1:], ((11, 1), [0, 1, 2]))
        self.assertEqual(mend(tongue, wants, ["aa", "ab", "b"], (0, 1), True), (["aa", "ab", "b"], (14, 1), []))
        self.assertEqual(mend(tongue, wants, ["b", "a", "b"], (0, 1), True), (["aa", "ab", "b"], (14, 1), [0, 1]))

    def test_of_those_that_change_as_few_none_is_cheaper(self):
        tongue = plain_tongue("ab", 3)
        wants = [("x", 1), ("y", 5)]
        # With much slack one word is changed, and it is not changed to a dear one.
        self.assertEqual(mend(tongue, wants, ["aaa", None], (99, 1), False), (["aaa", "b"], (8, 1), [1]))
        self.assertEqual(mend(tongue, wants, ["aaa", "aab"], (99, 1), False), (["aaa", "aab"], (18, 1), []))
        # Either word may stay, not both: the cheaper way is told.
        self.assertEqual(mend(tongue, wants, ["ab", "ab"], (99, 1), False), (["ab", "b"], (7, 1), [1]))
        self.assertEqual(mend(tongue, [("x", 5), ("y", 1)], ["ab", "ab"], (99, 1), False)[1:], ((7, 1), [0]))

    def test_a_slack_that_is_just_enough(self):
        tongue = ([sign("a", (1, 3), (1, 7)), sign("b", (2, 5), (3, 11))], [], [], 3)
        wants = [("x", 7), ("y", 2)]
        books = costed_books(tongue, wants, False)
        least = min(cost for book, cost in books)
        for book, cost in books:
            self.assertEqual(mend(tongue, wants, book, as_tuple(cost - least), False)[2], [])
            if cost > least:
                slack = cost - least - Fraction(1, 10 ** 8)
                self.assertNotEqual(mend(tongue, wants, book, as_tuple(slack), False)[2], [])

    def test_a_slack_below_nought(self):
        # Not promised: a cheapest book is told all the same.
        self.assertEqual(mend(plain_tongue("ab", 3), wants_for(2), ["a", "ba"], (-1, 2), False)[1], (3, 1))

    def test_elder_books_that_are_wrong(self):
        tongue = sample_tongue()
        wants = wants_for(3)
        least = cheapest_book(tongue, wants, False)[1]
        for elder in (["", "", ""], ["b", "a", "x"], ["dd" * 1500] * 3, ["da", "cc", "D"], [" ", "\n", "~"]):
            for ordered in BOTH:
                cost = cheapest_book(tongue, wants, ordered)[1]
                self.assertEqual(self.look_at(tongue, wants, elder, (7, 1), ordered)[1:], (cost, [0, 1, 2]))
        told = self.look_at(tongue, wants, ["dd", "x", "dd"], (10 ** 9, 1), False)
        self.assertIn(told[2], ([0, 1], [1, 2]))
        self.assertGreaterEqual(as_fraction(told[1]), as_fraction(least))

    def test_an_elder_book_out_of_order(self):
        tongue = plain_tongue("ab", 2)
        self.assertEqual(self.look_at(tongue, wants_for(2), ["b", "a"], (9, 1), False)[2], [])
        self.assertEqual(len(self.look_at(tongue, wants_for(2), ["b", "a"], (9, 1), True)[2]), 2)
        self.assertEqual(self.look_at(tongue, wants_for(2), ["ba", "aa"], (9, 1), True)[:2], (["ba", "bb"], (6, 1)))

    def test_no_book_at_all(self):
        for ordered in BOTH:
            for tongue in wordless_tongues():
                for many in (1, 5):
                    self.assertIsNone(mend(tongue, wants_for(many), ["a"] * many, (10 ** 9 - 1, 1), ordered))
            self.assertIsNone(mend(plain_tongue("ab", 1), wants_for(3), ["a", "b", None], (5, 1), ordered))
            self.assertIsNone(mend(plain_tongue("ab", 2), wants_for(5), [None] * 5, (0, 1), ordered))
            self.assertIsNotNone(mend(plain_tongue("ab", 2), wants_for(4), [None] * 4, (0, 1), ordered))

    def test_counts_of_nought_and_the_greatest(self):
        tongue = sample_tongue()
        tongue = (tongue[0], *tongue[1:3], 2)
        wants = [("x", 0), ("y", 10 ** 9), ("z", 0)]
        for ordered in BOTH:
            books = costed_books(tongue, wants, ordered)
            for slack in (Fraction(0), Fraction(1, 999999999), Fraction(999999999)):
                self.look_at_best(tongue, wants, ["dd", "db", "ac"], slack, ordered, books)
                self.look_at_best(tongue, wants, ["ac", "cd", "db"], slack, ordered, books)
        self.assertEqual(mend(tongue, [("x", 0), ("y", 0)], ["dd", "ac"], (0, 1), False)[1:], ((0, 1), []))

    def test_sizes(self):
        tongue = sample_tongue()
        for ordered, many in ((False, 5), (True, 7)):
            elder = list(cheapest_book(tongue, wants_for(many), True)[0])
            self.assertEqual(self.look_at(tongue, wants_for(many), elder, (99, 1), ordered)[2], [])
            self.assertIsNotNone(self.look_at(tongue, wants_for(many, 3)[::-1], elder, (0, 1), ordered))
        for ordered, many in ((False, 6), (False, 7), (False, 20), (True, 8), (True, 20)):
            for there in (tongue, wordless_tongues()[0]):
                with self.assertRaises(TooMany) as caught:
                    mend(there, wants_for(many), [None] * many, (0, 1), ordered)
                self.assertIsInstance(caught.exception, DearError)

    def test_great_tongues(self):
        tongue = great_tongue()
        words = ["bcdefbcd", "cdefbcde", "defbcdef", "efbcdefb", "fbcdefbc", "fcbfecbf", "ffffffff"]
        for ordered, many in ((False, 5), (True, 7)):
            wants = wants_for(many)
            least = cheapest_book(tongue, wants, ordered)[1]
            told = self.look_at(tongue, wants, words[:many], (10 ** 9 - 1, 1), ordered)
            self.assertEqual(told[0], words[:many])
            self.assertEqual(self.look_at(tongue, wants, words[:many], (0, 1), ordered)[1], least)
            seen = [len(self.look_at(tongue, wants, words[:many], (slack, 1), ordered)[2]) for slack in range(0, 90, 9)]
            self.assertEqual(seen, sorted(seen, reverse=True))
            self.assertGreater(len(set(seen)), 3)
