"""Point 8: what wants are."""

from unittest import TestCase

from dearsigns.errors import DearError, NoWants
from dearsigns.wants import look_at_wants
from tests.helpers import spoilt_wants, wants_for


class WantsTest(TestCase):

    def test_one_to_twenty_things(self):
        for many in range(1, 21):
            self.assertIsNone(look_at_wants(wants_for(many)))

    def test_counts_at_their_edges(self):
        self.assertIsNone(look_at_wants([("a", 0), ("abcdefgh", 10 ** 9), ("b", 0)]))
        for count in (-1, 10 ** 9 + 1):
            with self.assertRaises(NoWants) as caught:
                look_at_wants([("a", 0), ("b", count)])
            self.assertEqual(caught.exception.number, 1)

    def test_twenty_one_things_are_none(self):
        with self.assertRaises(NoWants) as caught:
            look_at_wants(wants_for(21))
        self.assertIsNone(caught.exception.number)

    def test_a_name_twice_is_told_at_the_second(self):
        with self.assertRaises(NoWants) as caught:
            look_at_wants([("a", 1), ("b", 1), ("c", 1), ("b", 2), ("a", -1)])
        self.assertEqual(caught.exception.number, 3)

    def test_what_is_none_is_refused_with_its_number(self):
        for thing, number in spoilt_wants():
            with self.assertRaises(NoWants) as caught:
                look_at_wants(thing)
            self.assertEqual(caught.exception.number, number, repr(thing)[:200])
            self.assertIsInstance(caught.exception, DearError)
