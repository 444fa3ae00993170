"""Points 9 and 10: what is wrong with a book, and what it costs."""

from fractions import Fraction
from random import Random
from unittest import TestCase

from dearsigns.books import comes_ahead, cost_of, what_is_wrong
from tests.helpers import (
    ANYTHING, as_tuple, plain_tongue, sample_tongue, slow_is_word, slow_price, slow_words, some_book, some_tongues,
    wants_for,
)


def slow_ahead(tongue, one, other):
    letters = [row[0] for row in tongue[0]]
    return [letters.index(each) for each in one] < [letters.index(each) for each in other]


def slow_wrong(tongue, many, thing, ordered):
    if type(thing) is not list or len(thing) != many or any(type(text) is not str for text in thing):
        return ("form",)
    wrong = [("word", k) for k in range(many) if not slow_is_word(tongue, thing[k])]
    wrong += [("begins", k, l) for k in range(many) for l in range(many) if k != l and thing[l][:len(thing[k])] == thing[k]]
    if wrong:
        return wrong[0]
    wrong = [("order", k) for k in range(many - 1) if not slow_ahead(tongue, thing[k], thing[k + 1])]
    return wrong[0] if ordered and wrong else None


class OrderTest(TestCase):

    def test_words_of_small_tongues(self):
        for tongue in some_tongues(20):
            words = slow_words(tongue)[:30]
            for one in words:
                for other in words:
                    if not one.startswith(other) and not other.startswith(one):
                        self.assertIs(comes_ahead(tongue, one, other), slow_ahead(tongue, one, other))

    def test_the_order_is_that_of_the_signs(self):
        tongue = plain_tongue("ba", 3)
        self.assertIs(comes_ahead(tongue, "b", "a"), True)
        self.assertIs(comes_ahead(tongue, "a", "b"), False)
        self.assertIs(comes_ahead(tongue, "baa", "ab"), True)
        self.assertIs(comes_ahead(tongue, "aab", "aaa"), True)
        self.assertIs(comes_ahead(tongue, "aaa", "aab"), False)
        self.assertIs(comes_ahead(tongue, "ab", "baa"), False)
        self.assertIs(comes_ahead(tongue, "bba", "ba"), True)


class WrongTest(TestCase):

    def test_books_of_chance(self):
        chance = Random(9)
        for tongue in some_tongues():
            for time in range(10):
                book = some_book(chance, tongue, 8)
                if book:
                    self.assertIsNone(what_is_wrong(tongue, wants_for(len(book)), book))
                    for ordered in (False, True):
                        self.assertEqual(what_is_wrong(tongue, wants_for(len(book)), book, ordered),
                                         slow_wrong(tongue, len(book), book, ordered))

    def test_lists_of_chance(self):
        chance = Random(10)
        for tongue in some_tongues(25):
            texts = slow_words(tongue)[:12] + ["", "q", "abcd"]
            for time in range(60):
                thing = [chance.choice(texts) for place in range(chance.randint(1, 5))]
                for ordered in (False, True):
                    self.assertEqual(what_is_wrong(tongue, wants_for(len(thing)), thing, ordered),
                                     slow_wrong(tongue, len(thing), thing, ordered))

    def test_form(self):
        tongue = plain_tongue("ab", 3)
        for thing in [*[thing for thing in ANYTHING if thing != ["a"]], ("a",), "a", {0: "a"}, ["a", "b"], [["a"]]]:
            if thing != [""]:
                self.assertEqual(what_is_wrong(tongue, wants_for(1), thing), ("form",))
        for thing in (["a"], ["a", "b", "a"], ["a", None], [None, "a"], ["q", 1], ["a", ["b"]], ("a", "b"), "ab"):
            for ordered in (False, True):
                self.assertEqual(what_is_wrong(tongue, wants_for(2), thing, ordered), ("form",))

    def test_word(self):
        tongue = sample_tongue()
        self.assertEqual(what_is_wrong(tongue, wants_for(1), [""]), ("word", 0))
        self.assertEqual(what_is_wrong(tongue, wants_for(3), ["d", "ab", "a"]), ("word", 2))
        self.assertEqual(what_is_wrong(tongue, wants_for(3), ["d", "da", "q"]), ("word", 1))
        self.assertEqual(what_is_wrong(tongue, wants_for(3), ["d", "d", "b"], True), ("word", 2))
        self.assertEqual(what_is_wrong(tongue, wants_for(2), ["d", "aaaab"]), ("word", 1))

    def test_begins_tells_the_least_numbers(self):
        tongue = plain_tongue("ab", 3)
        for book, told in ((["a", "a"], (0, 1)), (["ab", "a"], (1, 0)), (["a", "b", "ab"], (0, 2)),
                           (["ab", "b", "a", "aa"], (2, 0)), (["bb", "ab", "b", "a"], (2, 0)),
                           (["ab", "bb", "a", "aa", "b"], (2, 0)), (["aa", "b", "ab", "b"], (1, 3)),
                           (["aab", "b", "ba", "aa"], (1, 2)), (["aaa", "aa", "a"], (1, 0)),
                           (["b", "a", "aa", "ab"], (1, 2))):
            for ordered in (False, True):
                self.assertEqual(what_is_wrong(tongue, wants_for(len(book)), book, ordered), ("begins", *told))

    def test_order(self):
        tongue = plain_tongue("ba", 3)
        wants = wants_for(3)
        self.assertIsNone(what_is_wrong(tongue, wants, ["b", "ab", "aa"], True))
        self.assertEqual(what_is_wrong(tongue, wants, ["ab", "b", "aa"], True), ("order", 0))
        self.assertEqual(what_is_wrong(tongue, wants, ["b", "aa", "ab"], True), ("order", 1))
        self.assertEqual(what_is_wrong(tongue, wants, ["aa", "ab", "b"], True), ("order", 0))

    def test_ordered_left_out_asks_for_no_order(self):
        tongue = plain_tongue("ba", 3)
        self.assertIsNone(what_is_wrong(tongue, wants_for(2), ["a", "b"]))
        self.assertIsNone(what_is_wrong(tongue, wants_for(2), ["a", "b"], False))

    def test_a_book_of_one_thing(self):
        for ordered in (False, True):
            self.assertIsNone(what_is_wrong(plain_tongue(), wants_for(1), ["ab"], ordered))

    def test_twenty_words(self):
        book = [one + other + third for one in "abc" for other in "abc" for third in "abc"][:20]
        tongue = plain_tongue("abc", 3)
        self.assertIsNone(what_is_wrong(tongue, wants_for(20), book, True))
        self.assertEqual(what_is_wrong(tongue, wants_for(20), [*book[:19], "aaa"]), ("begins", 0, 19))
        self.assertEqual(what_is_wrong(tongue, wants_for(20), [*book[:18], book[19], book[18]], True), ("order", 18))


class CostTest(TestCase):

    def test_books_of_chance(self):
        chance = Random(11)
        for tongue in some_tongues():
            book = some_book(chance, tongue)
            if book:
                wants = [(name, chance.randint(0, 10 ** 9)) for name, count in wants_for(len(book))]
                cost = sum([want[1] * slow_price(tongue, word) for want, word in zip(wants, book)], Fraction(0))
                self.assertEqual(cost_of(tongue, wants, book), as_tuple(cost))

    def test_counts_at_their_edges(self):
        tongue = sample_tongue()
        self.assertEqual(cost_of(tongue, [("a", 0), ("b", 0)], ["dc", "ab"]), (0, 1))
        self.assertEqual(cost_of(tongue, [("a", 10 ** 9), ("b", 0)], ["dc", "ab"]), (5500000000, 9))
        self.assertEqual(cost_of(tongue, [("a", 18), ("b", 6)], ["dc", "ab"]), (18, 1))
        self.assertEqual(cost_of(tongue, [("a", 6), ("b", 18)], ["dc", "ab"]), (74, 3))
