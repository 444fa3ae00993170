"""Points 6 and 7: which texts stand, words, ways, prices, and how many there are."""

from unittest import TestCase

from dearsigns.errors import TooMany
from dearsigns.words import is_word, may_come, may_stand, price_of, text_counts, way_of, word_counts, words_of
from tests.helpers import (
    ANYTHING, as_tuple, plain_tongue, sample_tongue, sign, slow_is_word, slow_price, slow_stands, slow_way, slow_words,
    some_tongues, texts_up_to, tongue_of_5000_words, tongue_of_5001_words, wordless_tongues,
)


def letters_of(tongue):
    return [row[0] for row in tongue[0]]


def counts_by_length(texts, longest):
    return [len([text for text in texts if len(text) == length]) for length in range(1, longest + 1)]


class StandingTest(TestCase):

    def test_all_texts_of_small_tongues(self):
        for tongue in some_tongues(30):
            for text in texts_up_to(letters_of(tongue), min(tongue[3] + 1, 4)):
                self.assertIs(may_stand(tongue, text), slow_stands(tongue, text))
                self.assertIs(is_word(tongue, text), slow_is_word(tongue, text))

    def test_told_examples(self):
        tongue = sample_tongue()
        for text, stands, word in (("", True, False), ("d", True, True), ("a", True, False), ("b", False, False),
                                   ("ab", True, True), ("aaaa", True, False), ("aaab", True, True),
                                   ("aaaab", False, False), ("da", False, False), ("cc", False, False),
                                   ("acc", False, False), ("dcdc", True, True), ("bd", False, False),
                                   ("ac", True, True), ("ad", True, True), ("ae", False, False), ("ea", False, False)):
            self.assertIs(may_stand(tongue, text), stands, text)
            self.assertIs(is_word(tongue, text), word, text)

    def test_just_longest_signs_and_one_more(self):
        for longest in range(1, 9):
            tongue = plain_tongue("ab", longest)
            self.assertIs(is_word(tongue, "ab" * 4), longest == 8)
            for text, told in (("b" * longest, True), ("b" * (longest + 1), False)):
                self.assertIs(may_stand(tongue, text), told)
                self.assertIs(is_word(tongue, text), told)

    def test_other_signs_and_anything_else(self):
        tongue = plain_tongue("ab", 8)
        for text in ("c", "ac", "ca", "A", "a ", " a", "a\n", "a" * 3000, "ab" * 1500):
            self.assertIs(may_stand(tongue, text), False)
            self.assertIs(is_word(tongue, text), False)
        for thing in [["a"], ("a",), ["a", "b"], {"a": True}, *[thing for thing in ANYTHING if type(thing) is not str]]:
            self.assertIs(may_stand(tongue, thing), False)
            self.assertIs(is_word(tongue, thing), False)

    def test_coming(self):
        for tongue in some_tongues():
            for one in letters_of(tongue):
                self.assertIs(may_come(tongue, "", one), one not in tongue[1])
                for ahead in letters_of(tongue):
                    self.assertIs(may_come(tongue, ahead, one), ahead + one not in tongue[2])

    def test_coming_goes_one_way(self):
        tongue = sample_tongue()
        self.assertIs(may_come(tongue, "d", "a"), False)
        self.assertIs(may_come(tongue, "a", "d"), True)
        self.assertIs(may_come(tongue, "c", "c"), False)
        self.assertIs(may_come(tongue, "a", "a"), True)
        self.assertIs(may_come(tongue, "", "b"), False)
        self.assertIs(may_come(tongue, "a", "b"), True)
        # A text of one sign may come behind another even where longest is 1.
        self.assertIs(may_come(plain_tongue("ab", 1), "a", "b"), True)


class PriceTest(TestCase):

    def test_all_texts_of_small_tongues(self):
        for tongue in some_tongues(30):
            for text in texts_up_to(letters_of(tongue), 3):
                if slow_stands(tongue, text):
                    self.assertEqual(way_of(tongue, text), as_tuple(slow_way(tongue, text)))
                if slow_is_word(tongue, text):
                    self.assertEqual(price_of(tongue, text), as_tuple(slow_price(tongue, text)))

    def test_told_examples(self):
        tongue = sample_tongue()
        self.assertEqual(way_of(tongue, ""), (0, 1))
        self.assertEqual(way_of(tongue, "a"), (2, 3))
        self.assertEqual(way_of(tongue, "aad"), (11, 6))
        self.assertEqual(price_of(tongue, "d"), (5, 1))
        self.assertEqual(price_of(tongue, "dc"), (11, 18))
        self.assertEqual(price_of(tongue, "aaab"), (5, 2))

    def test_a_longer_word_may_cost_less(self):
        tongue = ([sign("a", (1, 10), (9, 1)), sign("b", (1, 1), (1, 10))], [], [], 2)
        self.assertEqual(price_of(tongue, "a"), (9, 1))
        self.assertEqual(price_of(tongue, "ab"), (1, 5))

    def test_nine_figures(self):
        tongue = ([sign("a", (999999999, 999999998), (1, 999999937)), sign("b", (1, 999999929), None)], [], [], 8)
        self.assertEqual(way_of(tongue, "abababab"), as_tuple(slow_way(tongue, "abababab")))
        self.assertEqual(price_of(tongue, "bbbbabaa"), as_tuple(slow_price(tongue, "bbbbabaa")))


class WordsTest(TestCase):

    def test_words_of_small_tongues_in_their_order(self):
        for tongue in some_tongues():
            self.assertEqual(words_of(tongue), slow_words(tongue))

    def test_the_order_is_that_of_the_signs(self):
        self.assertEqual(words_of(plain_tongue("ba", 2)), ["b", "a", "bb", "ba", "ab", "aa"])

    def test_counts_of_small_tongues(self):
        for tongue in some_tongues():
            texts = [text for text in texts_up_to(letters_of(tongue), tongue[3]) if slow_stands(tongue, text)]
            self.assertEqual(word_counts(tongue), counts_by_length(slow_words(tongue), tongue[3]))
            self.assertEqual(text_counts(tongue), counts_by_length(texts, tongue[3]))

    def test_tongues_without_words(self):
        for tongue in wordless_tongues():
            self.assertEqual(words_of(tongue), [])
            self.assertEqual(word_counts(tongue), [0] * 8)
        self.assertEqual([text_counts(tongue) for tongue in wordless_tongues()],
                         [[0] * 8, [3 ** length for length in range(1, 9)], [1] * 8])

    def test_just_5000_words(self):
        tongue = tongue_of_5000_words()
        told = words_of(tongue)
        self.assertEqual(len(told), 5000)
        self.assertEqual(told, slow_words(tongue))
        self.assertEqual(sum(word_counts(tongue)), 5000)

    def test_5001_words_are_too_many(self):
        tongue = tongue_of_5001_words()
        self.assertEqual(sum(word_counts(tongue)), 5001)
        self.assertEqual(sum(text_counts(tongue)), 7278)
        with self.assertRaises(TooMany):
            words_of(tongue)

    def test_counts_of_the_greatest_tongue(self):
        tongue = plain_tongue("abcdef", 8)
        self.assertEqual(word_counts(tongue), [6 ** length for length in range(1, 9)])
        self.assertEqual(text_counts(tongue), [6 ** length for length in range(1, 9)])
        with self.assertRaises(TooMany):
            words_of(tongue)

    def test_few_words_among_many_texts(self):
        signs = [sign(letter, (1, 1), None) for letter in "abcde"] + [sign("f")]
        tongue = (signs, [], [ahead + "f" for ahead in "abcde"], 8)
        self.assertEqual(words_of(tongue), ["f" * length for length in range(1, 9)])
        self.assertEqual(word_counts(tongue), [1] * 8)
        # Some f, then some of the other five signs.
        self.assertEqual(text_counts(tongue), [sum([5 ** rest for rest in range(length + 1)]) for length in range(1, 9)])
