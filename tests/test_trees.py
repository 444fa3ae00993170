"""Point 11: trees of books, and books of trees."""

from random import Random
from unittest import TestCase

from dearsigns.errors import DearError, NoTree
from dearsigns.trees import book_of, tree_of
from tests.helpers import ANYTHING, nested, plain_tongue, sample_tongue, some_book, some_tongues


def slow_ends(tree, begin=""):
    """The words and numbers along a tree."""
    ends = []
    for letter, node in tree:
        ends += [(begin + letter, node)] if type(node) is int else slow_ends(node, begin + letter)
    return ends


def nested_branches(many, letter="a"):
    thing = 0
    for step in range(many):
        thing = [(letter, thing)]
    return thing


class TreeTest(TestCase):

    def check_form(self, letters, tree):
        self.assertIs(type(tree), list)
        self.assertGreater(len(tree), 0)
        places = [letters.index(branch[0]) for branch in tree]
        self.assertEqual(places, sorted(set(places)))
        for branch in tree:
            self.assertIs(type(branch), tuple)
            self.assertEqual(len(branch), 2)
            if type(branch[1]) is not int:
                self.check_form(letters, branch[1])

    def test_books_of_chance(self):
        chance = Random(12)
        for tongue in some_tongues():
            for time in range(10):
                book = some_book(chance, tongue)
                if book:
                    tree = tree_of(tongue, book)
                    self.check_form([row[0] for row in tongue[0]], tree)
                    self.assertEqual(sorted(slow_ends(tree)), sorted((word, k) for k, word in enumerate(book)))
                    self.assertEqual(book_of(tongue, len(book), tree), book)

    def test_told_examples(self):
        tongue = plain_tongue("ba", 3)
        self.assertEqual(tree_of(tongue, ["a"]), [("a", 0)])
        self.assertEqual(tree_of(tongue, ["ab", "b"]), [("b", 1), ("a", [("b", 0)])])
        self.assertEqual(tree_of(tongue, ["aab", "b", "aba", "aaa"]),
                         [("b", 1), ("a", [("b", [("a", 2)]), ("a", [("b", 0), ("a", 3)])])])
        self.assertEqual(tree_of(plain_tongue("ab", 8), ["a" * 8]), nested_branches(8))

    def test_books_told_of_trees(self):
        tongue = plain_tongue("ba", 3)
        self.assertEqual(book_of(tongue, 1, [("a", 0)]), ["a"])
        self.assertEqual(book_of(tongue, 2, [("b", 1), ("a", [("b", 0)])]), ["ab", "b"])
        self.assertEqual(book_of(tongue, 2, [("a", [("b", 1), ("a", 0)])]), ["aa", "ab"])
        self.assertEqual(book_of(plain_tongue("ab", 8), 1, nested_branches(8)), ["a" * 8])

    def test_twenty_things(self):
        tongue = plain_tongue("abc", 3)
        book = [one + other + third for one in "cab" for other in "bca" for third in "abc"][:20]
        self.assertEqual(book_of(tongue, 20, tree_of(tongue, book)), book)


class NoTreeTest(TestCase):

    def check_refused(self, tongue, many, thing):
        with self.assertRaises(NoTree) as caught:
            book_of(tongue, many, thing)
        self.assertIsInstance(caught.exception, DearError)

    def test_anything(self):
        for many in (1, 2, 20):
            for thing in ANYTHING:
                self.check_refused(plain_tongue(), many, thing)
                self.check_refused(plain_tongue(), many, [thing])
                self.check_refused(plain_tongue(), many, [(thing, 0)] if thing not in ("a", "b") else thing)
                if thing not in (0, 1) or type(thing) is bool:
                    self.check_refused(plain_tongue(), many, [("a", thing)])
                    self.check_refused(plain_tongue(), many, [("a", 0), ("b", thing)])

    def test_many_lists_within_one_another(self):
        for many in (8, 9, 100, 133, 200):
            for thing in (nested(many), nested_branches(many), nested(many, ("a", 0)), nested(many, [("a", 0)])):
                self.check_refused(plain_tongue("ab", 7), 1, thing)

    def test_one_list_often_within_itself_is_found_soon(self):
        thing = []
        for step in range(190):
            thing = [("a", thing), ("b", thing)]
        self.check_refused(plain_tongue("ab", 8), 20, thing)

    def test_an_empty_list(self):
        self.check_refused(plain_tongue(), 1, [])
        self.check_refused(plain_tongue(), 1, [("a", [])])
        self.check_refused(plain_tongue(), 1, [("a", 0), ("b", [])])
        self.check_refused(plain_tongue(), 1, [("a", [("a", [])]), ("b", 0)])

    def test_signs_alike_or_out_of_their_order(self):
        tongue = plain_tongue("ba", 3)
        self.check_refused(tongue, 2, [("a", 0), ("b", 1)])
        self.check_refused(tongue, 2, [("a", 0), ("a", 1)])
        self.check_refused(tongue, 2, [("b", [("a", 0), ("b", 1)])])
        self.check_refused(tongue, 3, [("b", 0), ("a", 1), ("b", [("b", 2)])])
        self.check_refused(tongue, 2, [("b", [("b", 0)]), ("b", [("a", 1)])])

    def test_a_sign_that_is_none(self):
        for letter in ("", "c", "A", "ab", "ba", None, 0, True, ("a",), ["a"], {"a": 1}):
            self.check_refused(plain_tongue("ab", 3), 1, [(letter, 0)])

    def test_numbers(self):
        tongue = plain_tongue()
        for number in (True, False, 1, -1, 20, None, "0", (0, 1), [0], {}, (0,), 10 ** 59):
            self.check_refused(tongue, 1, [("a", number)])
        self.check_refused(tongue, 2, [("a", 0), ("b", True)])
        self.check_refused(tongue, 2, [("a", False), ("b", 1)])
        self.check_refused(tongue, 2, [("a", 0), ("b", 0)])
        self.check_refused(tongue, 1, [("a", 0), ("b", 0)])
        self.check_refused(tongue, 1, [("a", [("a", 0), ("b", 0)])])
        self.check_refused(tongue, 2, [("a", 0), ("b", 2)])
        self.check_refused(tongue, 2, [("a", 0), ("b", -1)])

    def test_a_thing_more_or_fewer(self):
        tongue = plain_tongue("abc", 3)
        tree = tree_of(tongue, ["a", "ba", "bb", "c"])
        self.assertEqual(book_of(tongue, 4, tree), ["a", "ba", "bb", "c"])
        for many in (1, 2, 3, 5, 20):
            self.check_refused(tongue, many, tree)

    def test_branches_of_other_forms(self):
        tongue = plain_tongue()
        for branch in (["a", 0], ("a",), ("a", 0, 0), (), "a0", {"a": 0}, (0, "a"), None, ("a", ("b", 0)), ("a", ())):
            self.check_refused(tongue, 1, [branch])
        self.check_refused(tongue, 1, (("a", 0),))
        self.check_refused(tongue, 1, ("a", 0))
        self.check_refused(tongue, 1, {"a": 0})

    def test_what_ends_at_no_word(self):
        tongue = sample_tongue()
        self.check_refused(tongue, 1, [("a", 0)])
        self.check_refused(tongue, 1, [("b", 0)])
        self.check_refused(tongue, 1, [("d", [("a", [("d", 0)])])])
        self.check_refused(tongue, 1, [("c", [("c", 0)])])
        self.check_refused(tongue, 1, [("b", [("d", 0)])])
        self.assertEqual(book_of(tongue, 1, [("a", [("b", 0)])]), ["ab"])

    def test_just_longest_signs_and_one_more(self):
        for longest in range(1, 9):
            tongue = plain_tongue("ab", longest)
            self.assertEqual(book_of(tongue, 1, nested_branches(longest, "b")), ["b" * longest])
            self.check_refused(tongue, 1, nested_branches(longest + 1, "b"))
