"""Point 23: parts, their candidates, and tongues that are too great for trees of reasons."""

from random import Random
from unittest import TestCase

from dearsigns.errors import DearError, TooMany
from dearsigns.parts import candidates_of
from dearsigns.words import words_of
from tests.helpers import MOST_OF_REASONS, TOO_MANY_FOR_REASONS, plain_tongue, sample_tongue, slow_candidates, \
    slow_words, some_part, some_tongues


class PartsTest(TestCase):

    def test_by_hand(self):
        tongue = plain_tongue("ba", 2)
        self.assertEqual(candidates_of(tongue, []), ["b", "a", "bb", "ba", "ab", "aa"])
        self.assertEqual(candidates_of(tongue, [("a", "ends")]), ["b", "a", "bb", "ba"])
        self.assertEqual(candidates_of(tongue, [("a", "on")]), ["b", "bb", "ba", "ab", "aa"])
        self.assertEqual(candidates_of(tongue, [("a", "unused")]), ["b", "bb", "ba"])
        part = [("a", "on"), ("ab", "unused"), ("b", "ends"), ("aa", "ends")]
        self.assertEqual(candidates_of(tongue, part), ["b", "aa"])
        self.assertEqual(candidates_of(tongue, [("a", "on"), ("aa", "on")]), ["b", "bb", "ba", "ab"])
        self.assertEqual(candidates_of(tongue, [("a", "unused"), ("b", "unused")]), [])

    def test_a_text_that_is_no_word(self):
        tongue = sample_tongue()
        self.assertNotIn("a", words_of(tongue))
        for word in ("ends", "unused"):
            self.assertEqual(candidates_of(tongue, [("a", word)]), [one for one in words_of(tongue) if one[0] != "a"])
        self.assertEqual(candidates_of(tongue, [("a", "on")]), words_of(tongue))

    def test_by_chance_in_the_order_of_words(self):
        chance = Random(23)
        for tongue in some_tongues(40):
            if len(slow_words(tongue)) <= 400:
                for step in range(6):
                    part = some_part(chance, tongue, chance.randint(0, 12))
                    self.assertEqual(candidates_of(tongue, part), slow_candidates(tongue, part), part)

    def test_sizes(self):
        for tongue in MOST_OF_REASONS:
            self.assertEqual(candidates_of(tongue, []), words_of(tongue))
        for tongue in TOO_MANY_FOR_REASONS:
            with self.assertRaises(TooMany) as caught:
                candidates_of(tongue, [])
            self.assertIsInstance(caught.exception, DearError)
