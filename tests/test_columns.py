"""Point 12: the columns of a book."""

from random import Random
from unittest import TestCase

from dearsigns.columns import columns_of
from tests.helpers import as_tuple, plain_tongue, sample_tongue, sign, slow_price, slow_way, some_book, some_tongues


def slow_columns(tongue, book):
    begins = [slow_way(tongue, text) for text in {word[:deep] for word in book for deep in range(len(word))}]
    ends = [slow_price(tongue, word) for word in book]
    return [(as_tuple(price), begins.count(price), ends.count(price)) for price in sorted({*begins, *ends})]


class ColumnsTest(TestCase):

    def test_books_of_chance(self):
        chance = Random(13)
        for tongue in some_tongues():
            for time in range(5):
                book = some_book(chance, tongue)
                if book:
                    self.assertEqual(columns_of(tongue, book), slow_columns(tongue, book))

    def test_a_book_of_one_thing(self):
        self.assertEqual(columns_of(plain_tongue(), ["a"]), [((0, 1), 1, 0), ((1, 1), 0, 1)])
        self.assertEqual(columns_of(plain_tongue(), ["aba"]),
                         [((0, 1), 1, 0), ((1, 1), 1, 0), ((2, 1), 1, 0), ((3, 1), 0, 1)])

    def test_several_of_one_price(self):
        tongue = plain_tongue("abc", 3)
        self.assertEqual(columns_of(tongue, ["a", "ba", "bb", "ca", "cbb", "cba"]),
                         [((0, 1), 1, 0), ((1, 1), 2, 1), ((2, 1), 1, 3), ((3, 1), 0, 2)])

    def test_prices_of_unlike_bottoms_rise(self):
        tongue = ([sign("a", (1, 2), (1, 10)), sign("b", (1, 3), (10, 1)), sign("c", (3, 4), (2, 3))], [], [], 3)
        self.assertEqual(columns_of(tongue, ["c", "ba", "aa", "bb"]),
                         [((0, 1), 1, 0), ((1, 3), 1, 0), ((13, 30), 0, 1), ((1, 2), 1, 0), ((3, 5), 0, 1),
                          ((2, 3), 0, 1), ((31, 3), 0, 1)])

    def test_a_way_and_a_price_in_one_column(self):
        told = columns_of(sample_tongue(), ["dcb", "ddc", "dddd"])
        self.assertEqual(told, slow_columns(sample_tongue(), ["dcb", "ddc", "dddd"]))
        self.assertEqual(told[0], ((0, 1), 1, 0))

    def test_twenty_words_of_nine_figures(self):
        tongue = ([sign("a", (999999999, 999999998), (1, 999999937)), sign("b", (1, 999999929), (5, 999999893)),
                   sign("c", (999999883, 7), (1, 999999797))], [], [], 8)
        book = ["abcab" + one + other + third for one in "abc" for other in "bca" for third in "cab"][:20]
        self.assertEqual(columns_of(tongue, book), slow_columns(tongue, book))
