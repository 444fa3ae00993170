"""Point 27: the cheapest book in which bound things have their texts."""

from random import Random
from unittest import TestCase

from dearsigns.binding import bound_book
from dearsigns.books import cost_of, what_is_wrong
from dearsigns.cheapest import cheapest_book
from dearsigns.errors import DearError, TooMany
from tests.helpers import as_tuple, costed_books, great_tongue, plain_tongue, sample_tongue, sign, slow_books, \
    slow_words, small_cases, wants_for, wordless_tongues

BOTH = (False, True)


class BindingTest(TestCase):

    def look_at(self, tongue, wants, bound, ordered):
        """The told cost, or None, once the told book was found to be one with the bound texts and that cost."""
        told = bound_book(tongue, wants, bound, ordered)
        if told is None:
            return None
        self.assertIs(type(told), tuple)
        book, cost = told
        self.assertIsNone(what_is_wrong(tongue, wants, book, ordered))
        self.assertEqual(cost_of(tongue, wants, book), cost)
        for number, text in bound.items():
            self.assertEqual(book[number], text)
        return cost

    def look_at_least(self, tongue, wants, bound, ordered, books):
        """Holds the told cost against going through all books."""
        fit = [cost for book, cost in books if all(book[number] == text for number, text in bound.items())]
        least = as_tuple(min(fit)) if fit else None
        self.assertEqual(self.look_at(tongue, wants, bound, ordered), least, (tongue, wants, bound, ordered))
        return bool(fit)

    def test_against_all_books(self):
        chance = Random(27)
        seen = {True: 0, False: 0}
        for tongue, wants in small_cases(60):
            words = slow_words(tongue)
            texts = [*words, *words, *words, "", "q", "aa", words[0] + "~" if words else "a"]
            for ordered in BOTH:
                books = costed_books(tongue, wants, ordered)
                for step in range(12):
                    numbers = [number for number in range(len(wants)) if chance.random() < 0.6]
                    # Words of one book as a rule, else any texts.
                    book = chance.choice(books)[0] if books and chance.random() < 0.6 else None
                    bound = {number: book[number] if book else chance.choice(texts) for number in numbers}
                    seen[self.look_at_least(tongue, wants, bound, ordered, books)] += 1
        self.assertGreater(min(seen.values()), 100)

    def test_no_bound_words(self):
        for tongue, wants in small_cases(40):
            for ordered in BOTH:
                self.assertEqual(self.look_at(tongue, wants, {}, ordered), cheapest_book(tongue, wants, ordered)[1])

    def test_all_words_bound(self):
        tongue = sample_tongue()
        wants = wants_for(3)
        for book in slow_books(plain_tongue("ab", 3), 3)[::7]:
            cost = cost_of(plain_tongue("ab", 3), wants, book)
            self.assertEqual(bound_book(plain_tongue("ab", 3), wants, dict(enumerate(book)), False), (book, cost))
        book = ["dd", "ac", "cb"]
        self.assertEqual(bound_book(tongue, wants, dict(enumerate(book)), False), (book, cost_of(tongue, wants, book)))
        self.assertEqual(bound_book(tongue, wants, dict(enumerate(book)), True), (book, cost_of(tongue, wants, book)))
        turned = dict(enumerate(reversed(book)))
        self.assertEqual(self.look_at(tongue, wants, turned, False), cost_of(tongue, wants, book[::-1]))
        self.assertIsNone(bound_book(tongue, wants, turned, True))

    def test_books_by_hand(self):
        tongue = plain_tongue("ab", 3)
        wants = [("x", 1), ("y", 5), ("z", 2)]
        self.assertEqual(bound_book(tongue, wants, {0: "a"}, False)[1], (1 + 10 + 4, 1))
        self.assertEqual(bound_book(tongue, wants, {0: "b"}, False)[1], (15, 1))
        self.assertEqual(bound_book(tongue, wants, {0: "b"}, True), None)
        self.assertEqual(bound_book(tongue, wants, {2: "b"}, True), (["aa", "ab", "b"], (14, 1)))
        self.assertEqual(bound_book(tongue, wants, {1: "aba"}, False)[1], (1 * 2 + 5 * 3 + 2 * 1, 1))
        self.assertEqual(bound_book(tongue, wants, {1: "aba"}, True), (["aa", "aba", "b"], (2 + 15 + 2, 1)))
        self.assertEqual(bound_book(tongue, wants, {0: "aa", 2: "b"}, False), (["aa", "ab", "b"], (14, 1)))

    def test_texts_that_are_no_words(self):
        tongue = sample_tongue()
        for text in ("", "b", "bd", "a", "dda", "da", "ddddd", "x", "D", "d ", " ", "\n", "dd" * 1000, "cc"):
            for ordered in BOTH:
                self.assertIsNone(bound_book(tongue, wants_for(1), {0: text}, ordered), text)
                self.assertIsNone(bound_book(tongue, wants_for(3), {1: text}, ordered), text)
                self.assertIsNone(bound_book(tongue, wants_for(3), {1: text, 2: "dd"}, ordered), text)

    def test_texts_that_clash(self):
        tongue = plain_tongue("ab", 4)
        for one, other in (("a", "a"), ("a", "ab"), ("abab", "ab"), ("abab", "abab"), ("b", "baaa")):
            for ordered in BOTH:
                self.assertIsNone(bound_book(tongue, wants_for(2), {0: one, 1: other}, ordered))
                self.assertIsNone(bound_book(tongue, wants_for(3), {0: one, 2: other}, ordered))
                self.assertIsNotNone(bound_book(tongue, wants_for(1), {0: one}, ordered))

    def test_a_bound_word_may_leave_no_room(self):
        tongue = plain_tongue("ab", 1)
        self.assertEqual(bound_book(tongue, wants_for(2), {0: "b"}, False), (["b", "a"], (3, 1)))
        self.assertIsNone(bound_book(tongue, wants_for(2), {0: "b"}, True))
        self.assertIsNone(bound_book(tongue, wants_for(3), {0: "b"}, False))
        tongue = plain_tongue("ab", 2)
        self.assertIsNone(bound_book(tongue, wants_for(4), {3: "a"}, False))
        self.assertIsNotNone(bound_book(tongue, wants_for(4), {3: "aa"}, False))

    def test_tongues_without_words(self):
        for tongue in wordless_tongues():
            for ordered in BOTH:
                for bound in ({}, {0: "a"}, {0: "a", 1: "b"}):
                    self.assertIsNone(bound_book(tongue, wants_for(2), bound, ordered))

    def test_counts_of_nought_and_the_greatest(self):
        tongue = ([sign("a", (1, 999999999), (999999999, 1)), sign("b", (999999999, 7), (1, 1))], [], [], 2)
        for wants in ([("x", 0), ("y", 10 ** 9)], [("x", 10 ** 9), ("y", 0)], [("x", 0), ("y", 0)]):
            for ordered in BOTH:
                books = costed_books(tongue, wants, ordered)
                for bound in ({}, {0: "a"}, {1: "ba"}, {0: "ab", 1: "b"}, {0: "b"}):
                    self.look_at_least(tongue, wants, bound, ordered, books)

    def test_sizes(self):
        tongue = sample_tongue()
        self.assertIsNotNone(self.look_at(tongue, wants_for(6), {2: "dd"}, False))
        self.assertIsNotNone(self.look_at(tongue, wants_for(12), {0: "dd", 11: "cd"}, True))
        for bound in ({}, {2: "dd"}, {0: "no"}, {0: "dd", 1: "dd"}):
            for ordered, many in ((False, 7), (False, 12), (False, 20), (True, 13), (True, 20)):
                with self.assertRaises(TooMany) as caught:
                    bound_book(tongue, wants_for(many), bound, ordered)
                self.assertIsInstance(caught.exception, DearError)

    def test_too_many_comes_ahead_of_none(self):
        for tongue in wordless_tongues():
            with self.assertRaises(TooMany):
                bound_book(tongue, wants_for(7), {}, False)

    def test_great_tongues(self):
        tongue = great_tongue()
        # Going through the words one by one would take far too long for all that is asked here.
        for ordered, many in ((False, 6), (True, 12)):
            wants = wants_for(many)
            free = self.look_at(tongue, wants, {}, ordered)
            self.assertEqual(free, cheapest_book(tongue, wants, ordered)[1])
            bound = {0: "bbbbbbbb", 1: "bbbbbbbc", many - 1: "ffffffff", many - 2: "fffffe" if ordered else "ffffff"}
            if not ordered:
                self.assertIsNone(bound_book(tongue, wants, bound, ordered))
                bound[many - 2] = "cdefcdef"
            self.assertIsNotNone(self.look_at(tongue, wants, bound, ordered))
        words = ["bcdefbcd", "cdefbcde", "defbcdef", "efbcdefb", "fbcdefbc", "fcbfecbf"]
        for many in range(1, 7):
            bound = dict(enumerate(words[:many]))
            self.assertIsNotNone(self.look_at(tongue, wants_for(6), bound, False))

    def test_nothing_hangs_on_the_order_of_the_keys(self):
        for tongue in (sample_tongue(), great_tongue()):
            bound = {4: "dddd", 0: "cddd", 2: "dcdc"}
            turned = {number: bound[number] for number in sorted(bound)}
            self.assertEqual(bound_book(tongue, wants_for(5), bound, False),
                             bound_book(tongue, wants_for(5), turned, False))

    def test_numbers_that_no_thing_has(self):
        # Of these nothing is promised, but that no book can have them.
        self.assertIsNone(bound_book(plain_tongue("ab", 2), wants_for(2), {2: "a"}, False))
        self.assertIsNone(bound_book(plain_tongue("ab", 2), wants_for(2), {-1: "a"}, True))
