"""Point 5: what a tongue is."""

from unittest import TestCase

from dearsigns.errors import DearError, NoTongue
from dearsigns.tongues import look_at_tongue
from tests.helpers import (
    plain_tongue, sample_tongue, sign, some_tongues, spoilt_tongues, tongue_of_5000_words, tongue_of_5001_words,
    wordless_tongues,
)


class TongueTest(TestCase):

    def test_tongues(self):
        for tongue in [*some_tongues(), *wordless_tongues(), tongue_of_5000_words(), tongue_of_5001_words()]:
            self.assertIsNone(look_at_tongue(tongue))

    def test_edges(self):
        for longest in range(1, 9):
            self.assertIsNone(look_at_tongue(plain_tongue("az", longest)))
            self.assertIsNone(look_at_tongue(plain_tongue("zyxcba", longest)))
        for last in (None, (1, 10 ** 8), (10 ** 9 - 1, 1)):
            self.assertIsNone(look_at_tongue(([sign("a", (1, 10 ** 9 - 1), last), sign("b")], [], [], 1)))

    def test_all_firsts_and_all_pairs(self):
        signs = [sign(letter) for letter in "fedcba"]
        pairs = [one + other for one in "abcdef" for other in "fedcba"]
        self.assertIsNone(look_at_tongue((signs, list("abcdef"), pairs, 8)))

    def test_a_pair_of_twice_the_same_sign(self):
        self.assertIsNone(look_at_tongue(([sign("a"), sign("b")], [], ["aa", "bb"], 2)))

    def test_what_is_none_is_refused_with_its_part(self):
        for thing, part in spoilt_tongues():
            with self.assertRaises(NoTongue) as caught:
                look_at_tongue(thing)
            self.assertEqual(caught.exception.part, part, repr(thing)[:200])
            self.assertIsInstance(caught.exception, DearError)

    def test_the_sample_itself_is_one(self):
        self.assertIsNone(look_at_tongue(sample_tongue()))
