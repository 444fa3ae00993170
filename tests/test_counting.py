"""Point 30: how many sets of words there are of each size, and how many books."""

from itertools import combinations
from math import comb, factorial
from unittest import TestCase

from dearsigns.counting import books_many, sets_by_size
from dearsigns.words import word_counts
from tests.helpers import great_tongue, plain_tongue, sample_tongue, slow_books, slow_is_ordered, slow_words, \
    small_cases, some_tongues, wordless_tongues

BOTH = (False, True)


def slow_sets(words, size):
    """How many sets of so many words there are, by going through all sets."""
    return sum(not any(one.startswith(other) or other.startswith(one) for one, other in combinations(some, 2))
               for some in combinations(words, size))


class SetsTest(TestCase):

    def test_against_all_sets(self):
        seen = 0
        for tongue in some_tongues(80):
            words = slow_words(tongue)
            for most in range(21):
                if comb(len(words), most) > 3000:
                    break
                told = sets_by_size(tongue, most)
                self.assertIs(type(told), list)
                self.assertEqual(told, [slow_sets(words, size) for size in range(most + 1)])
                seen += 1
        self.assertGreater(seen, 300)

    def test_sets_by_hand(self):
        self.assertEqual(sets_by_size(plain_tongue("ab", 1), 3), [1, 2, 1, 0])
        # a, b, aa, ab, ba, bb.
        self.assertEqual(sets_by_size(plain_tongue("ab", 2), 5), [1, 6, 11, 6, 1, 0])
        self.assertEqual(sets_by_size(plain_tongue("abcdef", 1), 6), [1, 6, 15, 20, 15, 6, 1])
        # The price has no part in it, a sign without a last has.
        tongue = (plain_tongue("ab", 2)[0][:1] + [("b", (9, 1), None)], [], [], 2)
        self.assertEqual(sets_by_size(tongue, 3), [1, 3, 2, 0])

    def test_no_words_are_one_set(self):
        for tongue in [*some_tongues(30), *wordless_tongues(), great_tongue()]:
            self.assertEqual(sets_by_size(tongue, 0), [1])

    def test_sets_of_one_are_words(self):
        for tongue in [*some_tongues(60), great_tongue()]:
            self.assertEqual(sets_by_size(tongue, 1), [1, sum(word_counts(tongue))])

    def test_twenty_words(self):
        for tongue in some_tongues(30):
            told = sets_by_size(tongue, 20)
            self.assertEqual(len(told), 21)
            for most in (0, 1, 7, 19):
                self.assertEqual(sets_by_size(tongue, most), told[:most + 1])
        # All sixteen words of four signs are a set, and none has more.
        self.assertEqual(sets_by_size(plain_tongue("ab", 4), 20)[16:], [1, 0, 0, 0, 0])
        self.assertEqual(sets_by_size(plain_tongue("ab", 4), 20)[15], 16 + 8)

    def test_tongues_without_words(self):
        for tongue in wordless_tongues():
            self.assertEqual(sets_by_size(tongue, 20), [1] + [0] * 20)

    def test_great_tongues(self):
        tongue = plain_tongue("abcdef", 8)
        words = sum(6 ** length for length in range(1, 9))
        begun = sum((length - 1) * 6 ** length for length in range(1, 9))
        self.assertEqual(sets_by_size(tongue, 2), [1, words, comb(words, 2) - begun])
        told = sets_by_size(tongue, 20)
        self.assertGreater(told[20], comb(6 ** 8, 20))
        self.assertLess(told[20], comb(words, 20))
        self.assertEqual(len(sets_by_size(great_tongue(), 20)), 21)


class BooksTest(TestCase):

    def test_against_all_books(self):
        for tongue, wants in small_cases(60):
            for many in range(1, len(wants) + 1):
                books = slow_books(tongue, many)
                self.assertEqual(books_many(tongue, many, False), len(books))
                self.assertEqual(books_many(tongue, many, True), sum(slow_is_ordered(tongue, book) for book in books))

    def test_of_one_thing_and_of_twenty(self):
        for tongue in [*some_tongues(30), sample_tongue(), great_tongue()]:
            sizes = sets_by_size(tongue, 20)
            for many in (1, 2, 5, 19, 20):
                self.assertEqual(books_many(tongue, many, True), sizes[many])
                self.assertEqual(books_many(tongue, many, False), sizes[many] * factorial(many))
        self.assertEqual(books_many(plain_tongue("ab", 4), 16, True), 1)
        self.assertEqual(books_many(plain_tongue("ab", 4), 16, False), factorial(16))

    def test_fewer_words_than_things(self):
        for ordered in BOTH:
            for many in range(3, 21):
                self.assertEqual(books_many(plain_tongue("ab", 1), many, ordered), 0)
            for tongue in wordless_tongues():
                for many in (1, 2, 20):
                    self.assertEqual(books_many(tongue, many, ordered), 0)
