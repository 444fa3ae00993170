"""Point 13: plain books, and rows of things written."""

from unittest import TestCase

from dearsigns.errors import DearError, NoBook, NoThing
from dearsigns.writing import write_row
from tests.helpers import ANYTHING, NO_PLAIN_BOOKS, TWENTY_WORDS


class WritingTest(TestCase):

    def test_rows(self):
        book = ["ab", "b", "aab", "zzzzzzzz"]
        self.assertEqual(write_row(book, []), "")
        self.assertEqual(write_row(book, [0]), "ab")
        self.assertEqual(write_row(book, [1, 0, 3, 2]), "babzzzzzzzzaab")
        self.assertEqual(write_row(book, [1] * 50 + [0]), "b" * 50 + "ab")
        self.assertEqual(write_row(book, [3] * 375), "z" * 3000)
        self.assertEqual(write_row(["a"], [0, 0, 0]), "aaa")

    def test_twenty_words(self):
        self.assertEqual(write_row(TWENTY_WORDS, [19, 0, 19]), "ezawez")

    def test_no_list(self):
        for thing in ANYTHING:
            if type(thing) is not list:
                with self.assertRaises(NoThing) as caught:
                    write_row(["a", "b"], thing)
                self.assertIsNone(caught.exception.place)
                self.assertIsInstance(caught.exception, DearError)

    def test_the_place_of_the_first_wrong_thing(self):
        for thing in [thing for thing in ANYTHING if type(thing) is not int] + [2, -1, -2, 10 ** 59, (0, 1), [0], "0"]:
            for row, place in (([thing], 0), ([0, thing], 1), ([1, 0, 1, thing, 5, None], 3), ([thing, thing], 0)):
                with self.assertRaises(NoThing) as caught:
                    write_row(["a", "b"], row)
                self.assertEqual(caught.exception.place, place)

    def test_no_plain_book(self):
        for thing in NO_PLAIN_BOOKS:
            with self.assertRaises(NoBook, msg=repr(thing)[:200]) as caught:
                write_row(thing, [])
            self.assertIsInstance(caught.exception, DearError)

    def test_no_book_comes_ahead_of_no_thing(self):
        for thing in NO_PLAIN_BOOKS:
            for row in (None, [None], "a", [7], (0,)):
                with self.assertRaises(NoBook):
                    write_row(thing, row)
