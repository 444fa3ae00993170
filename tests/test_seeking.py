"""Point 26: whether a book costs less than a least is sought."""

from fractions import Fraction
from itertools import product
from random import Random
from unittest import TestCase
from unittest.mock import patch

from dearsigns.books import cost_of, what_is_wrong
from dearsigns.cheapest import cheapest_book
from dearsigns.errors import DearError, TooMany
from dearsigns.reasons import lets_tree
from dearsigns.seeking import seek_book
from dearsigns.words import text_counts
from tests.helpers import MOST_OF_REASONS, TOO_MANY_FOR_REASONS, as_fraction, as_tuple, plain_tongue, sample_tongue, \
    sign, slow_least, small_cases, some_price, some_tongues, tongue_with, tree_size, wants_for, wordless_tongues

LITTLE = Fraction(1, 10 ** 50)


def tiny_tongues():
    """Tongues of which at most six texts with a sign stand."""
    chance = Random(26)
    tongues = [plain_tongue("ab", 1), plain_tongue("ab", 2), plain_tongue("abcdef", 1),
               (plain_tongue()[0], ["a", "b"], [], 8)]
    pairs = ["aa", "ab", "ba", "bb"]
    for taken in product([False, True], repeat=4):
        for firsts in ([], ["b"]):
            for longest in (2, 3, 5, 6):
                signs = [sign(letter, some_price(chance), chance.choice([None, some_price(chance), some_price(chance)]))
                         for letter in "ab"]
                tongues.append((signs, firsts, [pair for pair, is_in in zip(pairs, taken) if is_in], longest))
    return [tongue for tongue in tongues if sum(text_counts(tongue)) <= 6]


def splits_within(tree):
    """How many splits at most are within one another."""
    return 1 + max(splits_within(part) for part in tree[2]) if tree[0] == "split" else 0


class SeekingTest(TestCase):

    def seek(self, tongue, wants, least, most):
        """The told word, once what is told with it was found to be right."""
        told = seek_book(tongue, wants, as_tuple(least), most)
        self.assertIs(type(told), tuple)
        if told[0] == "book":
            self.assertEqual(len(told), 2)
            self.assertIsNone(what_is_wrong(tongue, wants, told[1]))
            self.assertLess(as_fraction(cost_of(tongue, wants, told[1])), least)
        elif told[0] == "none":
            self.assertEqual(len(told), 2)
            self.assertIs(lets_tree(tongue, wants, as_tuple(least), told[1]), True)
            self.assertLessEqual(tree_size(told[1]), most)
        else:
            self.assertEqual(told, ("open",))
        return told[0]

    def test_never_open_of_at_most_six_texts(self):
        chance = Random(27)
        tongues = tiny_tongues()
        self.assertGreater(len(tongues), 60)
        for tongue in tongues:
            for many in (1, 2, 3, 4, 6):
                wants = [(name, chance.choice([0, 1, 1, 3, 10])) for name in "abcdef"[:many]]
                real = slow_least(tongue, wants, False)
                self.assertEqual(self.seek(tongue, wants, Fraction(10 ** 12), 4000), "none" if real is None else "book")
                if real is not None:
                    self.assertEqual(self.seek(tongue, wants, real, 4000), "none")
                    self.assertEqual(self.seek(tongue, wants, real + LITTLE, 4000), "book")
                    self.assertEqual(self.seek(tongue, wants, real / 2 - 1, 4000), "none")

    def test_small_tongues(self):
        for tongue, wants in small_cases(60):
            real = slow_least(tongue, wants, False)
            told = self.seek(tongue, wants, Fraction(10 ** 12), 4000)
            if real is None:
                self.assertIn(told, ("none", "open"))
                continue
            self.assertIn(self.seek(tongue, wants, real, 4000), ("none", "open"))
            self.assertIn(self.seek(tongue, wants, real / 3, 4000), ("none", "open"))
            self.assertIn(self.seek(tongue, wants, real + LITTLE, 4000), ("book", "open"))

    def test_some_tongues_are_not_left_open(self):
        # Not promised for such tongues, but what it is for.
        seen = {}
        for number, tongue in enumerate(some_tongues(40)):
            wants = wants_for(2 + number % 5, number % 3)
            cost = cheapest_book(tongue, wants, False)[1]
            if sum(text_counts(tongue)) <= 400:
                real = Fraction(50) if cost is None else as_fraction(cost)
                told = (self.seek(tongue, wants, real, 1000), self.seek(tongue, wants, real + LITTLE, 1000))
                seen[told] = seen.get(told, 0) + 1
        self.assertEqual(set(seen), {("none", "book"), ("none", "none")})

    def test_least_of_nought_and_below(self):
        for tongue in (sample_tongue(), plain_tongue("ab", 3)):
            for least in (Fraction(0), Fraction(-7, 3)):
                self.assertEqual(self.seek(tongue, wants_for(3), least, 1), "none")
                self.assertEqual(self.seek(tongue, [("x", 0), ("y", 0)], least, 1), "none")
            self.assertEqual(self.seek(tongue, [("x", 0), ("y", 0)], LITTLE, 4000), "book")

    def test_tongues_without_words(self):
        for tongue in [wordless_tongues()[0], wordless_tongues()[2], tongue_with("abc", "abc", [], [], 3)]:
            for most in (1, 4000):
                self.assertEqual(self.seek(tongue, wants_for(2), Fraction(9), most), "none")

    def test_fewer_words_than_things(self):
        self.assertEqual(self.seek(plain_tongue("ab", 1), wants_for(3), Fraction(9), 1), "none")
        self.assertEqual(self.seek(plain_tongue("ab", 1), wants_for(2), Fraction(9), 4000), "book")

    def test_most_of_one_and_of_few(self):
        tongue = ([sign("a", (1, 1), (4, 1)), sign("b", (2, 1), (3, 1))], [], [], 4)
        wants = wants_for(6)
        real = as_fraction(cheapest_book(tongue, wants, False)[1])
        told = [self.seek(tongue, wants, real, most) for most in (1, 2, 3, 10, 4000)]
        self.assertEqual(told[0], "open")
        self.assertEqual(told[-1], "none")

    def test_shares_are_a_reason_where_the_cheapest_words_are_none(self):
        # Not promised by so few parts: the three cheapest words cost 5, the cheapest book costs 6.
        self.assertEqual(self.seek(plain_tongue("ab", 3), [("x", 1), ("y", 1), ("z", 2)], Fraction(6), 1), "none")

    def test_splits_within_one_another_are_not_too_many(self):
        tongue = ([sign("a", (1, 1), (4, 1)), sign("b", (2, 1), (3, 1))], [], [], 4)
        real = as_fraction(cheapest_book(tongue, wants_for(6), False)[1])
        told = []
        for most in (0, 1, 2, 3, 4, 5, 20):
            with patch("dearsigns.seeking.MOST_SPLITS_WITHIN", most):
                told.append(seek_book(tongue, wants_for(6), as_tuple(real), 4000))
            if told[-1][0] == "none":
                self.assertLessEqual(splits_within(told[-1][1]), most)
        self.assertEqual((told[0], told[-1][0]), (("open",), "none"))

    def test_most_beyond_its_limits(self):
        tongue = ([sign("a", (1, 1), (4, 1)), sign("b", (2, 1), (3, 1))], [], [], 4)
        real = as_fraction(cheapest_book(tongue, wants_for(6), False)[1])
        self.assertEqual(self.seek(tongue, wants_for(6), real, 0), "open")
        self.assertEqual(self.seek(tongue, wants_for(6), real, 4001), "none")
        # However many parts may be gone into, there are no more than a tree may have.
        with patch("dearsigns.seeking.MOST_NODES", 3):
            self.assertEqual(seek_book(tongue, wants_for(6), as_tuple(real), 4001), ("open",))

    def test_many_things(self):
        for tongue in (plain_tongue("ab", 6), plain_tongue("abc", 4), sample_tongue()):
            for most in (1, 60):
                self.assertEqual(self.seek(tongue, wants_for(20), Fraction(10 ** 12), most), "book")
                self.assertIn(self.seek(tongue, wants_for(20), Fraction(600), most), ("none", "open", "book"))

    def test_a_book_of_just_all_words(self):
        self.assertEqual(self.seek(plain_tongue("ab", 4), wants_for(16), Fraction(10 ** 9), 1), "book")
        self.assertIn(self.seek(plain_tongue("ab", 4), wants_for(17), Fraction(10 ** 9), 4000), ("none", "open"))

    def test_sizes(self):
        for tongue in MOST_OF_REASONS:
            self.seek(tongue, wants_for(5), Fraction(40), 20)
        for tongue in TOO_MANY_FOR_REASONS:
            with self.assertRaises(TooMany) as caught:
                seek_book(tongue, wants_for(5), (40, 1), 20)
            self.assertIsInstance(caught.exception, DearError)
