"""Points 32 and 33: tongues, texts, books and wants called otherwise, and what stays the same."""

from random import Random
from unittest import TestCase

from dearsigns.allbooks import all_books, costs_of_all
from dearsigns.books import cost_of, what_is_wrong
from dearsigns.cheapest import cheapest_book
from dearsigns.columns import columns_of
from dearsigns.counting import books_many, sets_by_size
from dearsigns.errors import DearError, NoTongue, NoTurn, NoWants
from dearsigns.numbers import times
from dearsigns.tongues import look_at_tongue
from dearsigns.turning import dearer, more_often, put_book, put_wants, turned_book, turned_text, turned_tongue
from dearsigns.wants import look_at_wants
from dearsigns.words import is_word, may_stand, price_of, text_counts, way_of, word_counts, words_of
from tests.helpers import ANYTHING, great_tongue, nested, nested_tuples, plain_tongue, sample_tongue, sign, \
    slow_words, small_cases, some_book, some_price, some_tongues, spoilt_tongues, spoilt_wants, texts_up_to, wants_for

BOTH = (False, True)
LETTERS = "abcdefghijklmnopqrstuvwxyz"

NO_LETTERS = ANYTHING + [
    ["a", "b", "c"], ["a", "b", "c", "d", "e"], ["a", "b", "c", "a"], ["a", "a", "a", "a"], ["a", "b", "c", "D"],
    ["a", "b", "c", ""], ["a", "b", "c", "de"], ["a", "b", "c", "1"], ["a", "b", "c", " "], ["a", "b", "c", None],
    ["a", "b", "c", ["d"]], ["a", "b", "c", ("d",)], ["a", "b", "c", 1], ["a", "b", "c", True], ("a", "b", "c", "d"),
    {"a": 1, "b": 2, "c": 3, "d": 4}, "abcd", ["abcd"], [["a", "b", "c", "d"]], [nested(300)] * 4, ["a", "b", "c", {}],
    {0: "a", 1: "b", 2: "c", 3: "d"},
]
NO_ORDERS = [thing for thing in ANYTHING] + [
    [0, 1], [0, 1, 2, 3], [0, 1, 2, 2], [0, 1, 1], [1, 2, 3], [0, 1, -1], [0, 1, 3], [0, 1, None], [0, 1, "2"], [0, 1, [2]],
    [0, True, 2], [False, 1, 2], [0, 1, (2,)], (0, 1, 2), {0: 0, 1: 1, 2: 2}, "012", [[0, 1, 2]], [0, 1, 10 ** 59],
    [0, 1, (2, 1)], [nested_tuples(300)] * 3, [0, 1, {}],
]
NO_FACTORS_OF_PRICES = [thing for thing in ANYTHING if thing != (1, 2)] + [
    (0, 1), (-1, 2), (2, 4), (1, 0), (1, -1), (True, 1), (1, True), [1, 2], (1,), (1, 1, 1), 2, "2", "1/2", (2, 2),
    ("1", 2), ((1, 2), 1), {1: 2}, (-10 ** 8, 1),
]
NO_FACTORS_OF_COUNTS = [thing for thing in ANYTHING if thing not in (1, 7) or thing is True] + [
    0, -1, 1001, 10 ** 59, -10 ** 59, True, False, (2, 1), (1, 1), "2", [2], None,
]


def some_letters(chance, tongue):
    return chance.sample(LETTERS, len(tongue[0]))


def some_order(chance, many):
    order = list(range(many))
    chance.shuffle(order)
    return order


def turned_back(order):
    return [order.index(place) for place in range(len(order))]


class LettersTest(TestCase):

    def test_by_hand(self):
        tongue, letters = sample_tongue(), ["a", "z", "b", "d"]
        self.assertEqual(turned_tongue(tongue, letters), (
            [sign("a", (1, 2), (5, 1)), sign("z", (2, 3), None), sign("b", (7, 1), (1, 9)), sign("d", (3, 1), (1, 2))],
            ["d"], ["az", "bb"], 4))
        self.assertEqual(turned_text(tongue, letters, "dacb"), "azbd")
        self.assertEqual(turned_text(tongue, letters, ""), "")
        self.assertEqual(turned_text(tongue, letters, "d" * 3000), "a" * 3000)
        self.assertEqual(turned_book(tongue, letters, ["dd", "ac", "cb"]), ["aa", "zb", "bd"])
        self.assertEqual(turned_book(tongue, letters, []), [])
        tongue = (plain_tongue("abc")[0], ["c", "a"], ["ca", "ab", "bb"], 2)
        self.assertEqual(turned_tongue(tongue, ["b", "c", "a"])[1:], (["a", "b"], ["ab", "bc", "cc"], 2))

    def test_own_letters_change_nothing(self):
        for tongue in some_tongues(30):
            letters = [row[0] for row in tongue[0]]
            self.assertEqual(turned_tongue(tongue, letters), tongue)

    def test_there_and_back(self):
        chance = Random(32)
        for tongue in [*some_tongues(), great_tongue()]:
            letters = some_letters(chance, tongue)
            own = [row[0] for row in tongue[0]]
            turned = turned_tongue(tongue, letters)
            self.assertIsNone(look_at_tongue(turned))
            self.assertEqual([row[0] for row in turned[0]], letters)
            self.assertEqual([row[1:] for row in turned[0]], [row[1:] for row in tongue[0]])
            self.assertEqual(turned_tongue(turned, own), tongue)
            text = "".join(chance.choice(own) for step in range(20))
            self.assertEqual(turned_text(turned, own, turned_text(tongue, letters, text)), text)

    def test_what_stays_the_same(self):
        chance = Random(33)
        for tongue in some_tongues(40):
            letters = some_letters(chance, tongue)
            turned = turned_tongue(tongue, letters)
            self.assertEqual(words_of(turned), turned_book(tongue, letters, words_of(tongue)))
            self.assertEqual(word_counts(turned), word_counts(tongue))
            self.assertEqual(text_counts(turned), text_counts(tongue))
            self.assertEqual(sets_by_size(turned, 6), sets_by_size(tongue, 6))
            for text in chance.sample(texts_up_to([row[0] for row in tongue[0]], 4), 30):
                other = turned_text(tongue, letters, text)
                self.assertIs(may_stand(turned, other), may_stand(tongue, text))
                self.assertIs(is_word(turned, other), is_word(tongue, text))
                if may_stand(tongue, text):
                    self.assertEqual(way_of(turned, other), way_of(tongue, text))
                if is_word(tongue, text):
                    self.assertEqual(price_of(turned, other), price_of(tongue, text))

    def test_costs_and_what_is_wrong_stay_the_same(self):
        chance = Random(34)
        for tongue, wants in small_cases(60):
            letters = some_letters(chance, tongue)
            turned = turned_tongue(tongue, letters)
            words = slow_words(tongue)
            for ordered in BOTH:
                self.assertEqual(cheapest_book(turned, wants, ordered)[1], cheapest_book(tongue, wants, ordered)[1])
                self.assertEqual(books_many(turned, 3, ordered), books_many(tongue, 3, ordered))
                if books_many(tongue, len(wants), ordered) <= 3000:
                    self.assertEqual(costs_of_all(turned, wants, ordered), costs_of_all(tongue, wants, ordered))
                    books = [turned_book(tongue, letters, book) for book in all_books(tongue, len(wants), ordered)]
                    self.assertEqual(all_books(turned, len(wants), ordered), sorted(books))
                for step in range(5):
                    signs = [row[0] for row in tongue[0]]
                    book = [chance.choice([*words, *words, *signs]) for want in wants]
                    other = turned_book(tongue, letters, book)
                    wrong = what_is_wrong(tongue, wants, book, ordered)
                    self.assertEqual(what_is_wrong(turned, wants, other, ordered), wrong)
                    if wrong is None:
                        self.assertEqual(cost_of(turned, wants, other), cost_of(tongue, wants, book))
                        self.assertEqual(columns_of(turned, other), columns_of(tongue, book))

    def test_what_are_no_letters(self):
        tongue = sample_tongue()
        for letters in NO_LETTERS:
            for function, rest in ((turned_tongue, []), (turned_text, ["dd"]), (turned_book, [["dd"]])):
                with self.assertRaises(NoTurn) as caught:
                    function(tongue, letters, *rest)
                self.assertIsInstance(caught.exception, DearError)
        for many in range(2, 7):
            there = plain_tongue(LETTERS[:many])
            self.assertEqual(turned_text(there, list(LETTERS[1:many + 1]), "ab"), "bc")
            for other in (many - 1, many + 1):
                with self.assertRaises(NoTurn):
                    turned_tongue(there, list(LETTERS[:other]))

    def test_no_tongue_comes_first(self):
        for thing, part in spoilt_tongues():
            for letters in (None, ["a", "b", "c", "d"]):
                for function, rest in ((turned_tongue, [letters]), (turned_text, [letters, "d"]),
                                       (turned_book, [letters, ["d"]]), (dearer, [letters]), (dearer, [(1, 2)])):
                    with self.assertRaises(NoTongue) as caught:
                        function(thing, *rest)
                    self.assertEqual(caught.exception.part, part)


class OrderTest(TestCase):

    def test_by_hand(self):
        wants = [("x", 1), ("y", 2), ("z", 3)]
        self.assertEqual(put_wants(wants, [1, 2, 0]), [("z", 3), ("x", 1), ("y", 2)])
        self.assertEqual(put_book(["a", "ba", "bb"], [1, 2, 0]), ["bb", "a", "ba"])
        self.assertEqual(put_wants(wants, [0, 1, 2]), wants)
        self.assertEqual(put_wants([("x", 1)], [0]), [("x", 1)])
        self.assertEqual(put_book(["a", "a"], [1, 0]), ["a", "a"])

    def test_there_and_back(self):
        chance = Random(35)
        for many in [*range(1, 21)] * 3:
            order = some_order(chance, many)
            wants = wants_for(many)
            put = put_wants(wants, order)
            self.assertIsNone(look_at_wants(put))
            for number in range(many):
                self.assertEqual(put[order[number]], wants[number])
            self.assertEqual(put_wants(put, turned_back(order)), wants)
            book = [name + "x" for name, count in wants]
            self.assertEqual(put_book(book, order), [name + "x" for name, count in put])

    def test_what_stays_the_same(self):
        chance = Random(36)
        for tongue, wants in small_cases(60):
            order = some_order(chance, len(wants))
            put = put_wants(wants, order)
            self.assertEqual(cheapest_book(tongue, put, False)[1], cheapest_book(tongue, wants, False)[1])
            if books_many(tongue, len(wants), False) <= 3000:
                self.assertEqual(costs_of_all(tongue, put, False), costs_of_all(tongue, wants, False))
            for step in range(5):
                book = some_book(chance, tongue)[:len(wants)]
                if len(book) == len(wants):
                    self.assertIsNone(what_is_wrong(tongue, put, put_book(book, order)))
                    self.assertEqual(cost_of(tongue, put, put_book(book, order)), cost_of(tongue, wants, book))
                    self.assertEqual(columns_of(tongue, put_book(book, order)), columns_of(tongue, book))

    def test_what_is_no_order(self):
        for order in NO_ORDERS:
            for function, some in ((put_wants, wants_for(3)), (put_book, ["a", "ba", "bb"])):
                with self.assertRaises(NoTurn) as caught:
                    function(some, order)
                self.assertIsInstance(caught.exception, DearError)

    def test_no_wants_come_first(self):
        for thing, number in spoilt_wants():
            for order in (None, [0], [1, 0]):
                with self.assertRaises(NoWants) as caught:
                    put_wants(thing, order)
                self.assertEqual(caught.exception.number, number)


class FactorTest(TestCase):

    def test_prices_by_hand(self):
        self.assertEqual(dearer(sample_tongue(), (3, 2)), (
            [sign("d", (3, 4), (15, 2)), sign("a", (1, 1), None), sign("c", (21, 2), (1, 6)),
             sign("b", (9, 2), (3, 4))], ["b"], ["da", "cc"], 4))
        self.assertEqual(dearer(sample_tongue(), (1, 1)), sample_tongue())
        self.assertEqual(dearer(plain_tongue("ab", 1), (1, 999999999))[0][0], ("a", (1, 999999999), (1, 999999999)))

    def test_counts_by_hand(self):
        self.assertEqual(more_often([("x", 0), ("y", 7)], 3), [("x", 0), ("y", 21)])
        self.assertEqual(more_often(wants_for(20), 1), wants_for(20))
        self.assertEqual(more_often([("x", 0), ("y", 10 ** 6)], 1000), [("x", 0), ("y", 10 ** 9)])
        self.assertEqual(more_often([("x", 10 ** 9)], 1), [("x", 10 ** 9)])
        self.assertEqual(more_often([("x", 0)], 1000), [("x", 0)])

    def test_costs_are_multiplied(self):
        chance = Random(37)
        for tongue, wants in small_cases(60):
            factor, often = some_price(chance), chance.choice([1, 2, 7, 1000])
            wants = [(name, min(count, 10 ** 6)) for name, count in wants]
            costlier, more = dearer(tongue, factor), more_often(wants, often)
            self.assertIsNone(look_at_tongue(costlier))
            self.assertIsNone(look_at_wants(more))
            for ordered in BOTH:
                cost = cheapest_book(tongue, wants, ordered)[1]
                if cost is None:
                    self.assertIsNone(cheapest_book(costlier, more, ordered)[1])
                    continue
                self.assertEqual(cheapest_book(costlier, wants, ordered)[1], times(cost, factor))
                self.assertEqual(cheapest_book(tongue, more, ordered)[1], times(cost, (often, 1)))
                if books_many(tongue, len(wants), ordered) <= 3000:
                    costs = costs_of_all(tongue, wants, ordered)
                    self.assertEqual(costs_of_all(costlier, wants, ordered),
                                     [(times(one, factor), many) for one, many in costs])
                    self.assertEqual(costs_of_all(tongue, more, ordered),
                                     [(times(one, (often, 1)), many) for one, many in costs])
            for word in slow_words(tongue)[:9]:
                self.assertEqual(price_of(costlier, word), times(price_of(tongue, word), factor))
            self.assertEqual(dearer(costlier, (factor[1], factor[0])), tongue)

    def test_what_is_no_factor_of_prices(self):
        for factor in NO_FACTORS_OF_PRICES:
            with self.assertRaises(NoTurn, msg=repr(factor)[:99]) as caught:
                dearer(sample_tongue(), factor)
            self.assertIsInstance(caught.exception, DearError)

    def test_what_is_no_factor_of_counts(self):
        for factor in NO_FACTORS_OF_COUNTS:
            for wants in ([("x", 1)], [("x", 0)], [("x", 10 ** 9)]):
                with self.assertRaises(NoTurn, msg=repr(factor)[:99]) as caught:
                    more_often(wants, factor)
                self.assertIsInstance(caught.exception, DearError)

    def test_counts_that_would_be_too_great(self):
        for wants, factor in (([("x", 10 ** 9)], 2), ([("x", 10 ** 6 + 1)], 1000), ([("x", 333333334), ("y", 0)], 3),
                              ([("x", 1), ("y", 5 * 10 ** 8 + 1)], 2)):
            with self.assertRaises(NoTurn):
                more_often(wants, factor)
        self.assertEqual(more_often([("x", 333333333), ("y", 0)], 3), [("x", 999999999), ("y", 0)])

    def test_no_wants_come_first(self):
        for thing, number in spoilt_wants():
            for factor in (None, 2, 0):
                with self.assertRaises(NoWants) as caught:
                    more_often(thing, factor)
                self.assertEqual(caught.exception.number, number)
