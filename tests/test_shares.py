"""Points 20 and 21: which shares are let by, and what they claim."""

from fractions import Fraction
from random import Random
from unittest import TestCase

from dearsigns.shares import claim_of_shares, lets_shares
from tests.helpers import as_fraction, as_tuple, plain_tongue, sample_tongue, sign, slow_least, slow_price, \
    slow_share, slow_stands, slow_way, slow_words, small_cases, spoilt_shares, texts_up_to, tongue_of_5000_texts, \
    tongue_of_5001_texts, wants_for, wordless_tongues

LITTLE = Fraction(1, 10 ** 50)
HALVES = [(ahead, letter, (1, 2)) for ahead in ("", "a", "b") for letter in "ab"]


def slow_lets(tongue, wants, shares):
    """Whether shares of the right form are let by, by going through all texts."""
    whole, parts, values = shares
    texts = [text for text in texts_up_to([row[0] for row in tongue[0]], tongue[3]) if slow_stands(tongue, text)]
    ways = {text: slow_way(tongue, text) for text in texts}
    words = {word: slow_price(tongue, word) for word in slow_words(tongue)}
    for (name, count), value in zip(wants, values):
        value = as_fraction(value)
        looked_at = [text for text in texts
                     if text and all(ways[text[:deep]] * count < value for deep in range(len(text)))]
        if len(looked_at) > 5000:
            return False
        if any(value > count * words[word] + slow_share(whole, parts, word) for word in words):
            return False
    return True


def some_parts(chance, letters):
    """Parts by chance, those of a sign together often just one."""
    parts = []
    for ahead in ["", *letters]:
        weights = [chance.choice([0, 1, 1, 2, 5]) for letter in letters]
        total = max(1, sum(weights) + chance.choice([0, 0, 1]))
        parts += [(ahead, letter, as_tuple(Fraction(weight, total))) for letter, weight in zip(letters, weights)
                  if chance.random() < 0.95]
    chance.shuffle(parts)
    return parts


def greatest_values(tongue, wants, whole, parts):
    """The greatest values that are right; of a tongue without words some."""
    prices = {word: slow_price(tongue, word) for word in slow_words(tongue)}
    shares = {word: slow_share(whole, parts, word) for word in prices}
    return [as_tuple(min([count * prices[word] + shares[word] for word in prices], default=Fraction(7)))
            for name, count in wants]


def shares_by_chance(chance, tongue, wants):
    """Shares with the greatest values, or lesser ones, seldom with one a little too great."""
    whole = as_tuple(Fraction(chance.choice([0, 1, 5, 100, 10 ** 9]), chance.randint(1, 9)))
    parts = some_parts(chance, [row[0] for row in tongue[0]])
    values = greatest_values(tongue, wants, whole, parts)
    place = chance.randrange(len(values))
    deed = chance.randrange(4)
    if deed == 0:
        values[place] = as_tuple(as_fraction(values[place]) + LITTLE)
    elif deed == 1:
        values[place] = as_tuple(as_fraction(values[place]) / 2)
    elif deed == 2:
        values[place] = (0, 1)
    return (whole, parts, values)


class LetsSharesTest(TestCase):

    def test_shares_by_hand(self):
        tongue, wants = plain_tongue("ab", 3), [("x", 1), ("y", 1), ("z", 2)]
        # Words of one, two, three signs have the shares 2, 1, 1/2; the cheapest book costs 6.
        values = [(3, 1), (3, 1), (4, 1)]
        self.assertIs(lets_shares(tongue, wants, ((4, 1), HALVES, values)), True)
        self.assertEqual(claim_of_shares(((4, 1), HALVES, values)), (6, 1))
        for place in range(3):
            raised = list(values)
            raised[place] = as_tuple(as_fraction(values[place]) + LITTLE)
            self.assertIs(lets_shares(tongue, wants, ((4, 1), HALVES, raised)), False)
        self.assertIs(lets_shares(tongue, wants, ((399, 100), HALVES, values)), False)
        self.assertIs(lets_shares(tongue, wants, ((5, 1), HALVES, values)), True)
        for part in HALVES:
            fewer = [other for other in HALVES if other != part]
            self.assertIs(lets_shares(tongue, wants, ((4, 1), fewer, values)), False)

    def test_a_part_that_is_not_there_is_nought(self):
        tongue, wants = plain_tongue("ab", 2), [("x", 1)]
        self.assertIs(lets_shares(tongue, wants, ((9, 1), [("", "a", (1, 1))], [(1, 1)])), True)
        self.assertIs(lets_shares(tongue, wants, ((9, 1), [("", "a", (1, 1))], [(101, 100)])), False)
        self.assertIs(lets_shares(tongue, wants, ((9, 1), [("", "a", (1, 2)), ("", "b", (1, 2))], [(2, 1)])), True)
        self.assertIs(lets_shares(tongue, wants, ((9, 1), [("", "a", (1, 2)), ("", "b", (1, 2))], [(3, 1)])), False)

    def test_parts_hang_on_the_sign_ahead(self):
        tongue, wants = ([sign("a", (1, 1), None), sign("b")], [], [], 2), [("x", 1)]
        parts = [("", "a", (1, 2)), ("", "b", (1, 2)), ("a", "b", (1, 4)), ("b", "b", (3, 4)), ("b", "a", (1, 4))]
        # "b" costs 1 and has the share 4, "ab" 2 and 1, "bb" 2 and 3.
        self.assertIs(lets_shares(tongue, wants, ((8, 1), parts, [(3, 1)])), True)
        self.assertIs(lets_shares(tongue, wants, ((8, 1), parts, [as_tuple(3 + LITTLE)])), False)

    def test_by_chance_against_going_through_all_texts(self):
        chance = Random(20)
        seen = {True: 0, False: 0}
        for tongue, wants in small_cases(60):
            for step in range(8):
                shares = shares_by_chance(chance, tongue, wants)
                told = lets_shares(tongue, wants, shares)
                self.assertIs(told, slow_lets(tongue, wants, shares), (tongue, wants, shares))
                seen[told] += 1
        self.assertGreater(min(seen.values()), 80)

    def test_no_book_costs_less_than_what_they_claim(self):
        chance = Random(21)
        for tongue, wants in small_cases(60):
            least = slow_least(tongue, wants, False)
            for step in range(8):
                shares = shares_by_chance(chance, tongue, wants)
                if least is not None and lets_shares(tongue, wants, shares):
                    self.assertLessEqual(as_fraction(claim_of_shares(shares)), least)

    def test_one_value_raised_a_little(self):
        chance = Random(22)
        for tongue, wants in [case for case in small_cases(30) if slow_words(case[0])]:
            whole, parts = (chance.randint(0, 30), 1), some_parts(chance, [row[0] for row in tongue[0]])
            values = greatest_values(tongue, wants, whole, parts)
            self.assertIs(lets_shares(tongue, wants, (whole, parts, values)), True)
            for place in range(len(wants)):
                raised = list(values)
                raised[place] = as_tuple(as_fraction(values[place]) + LITTLE)
                self.assertIs(lets_shares(tongue, wants, (whole, parts, raised)), False)

    def test_parts_of_one_sign_together_just_one_and_a_little_above(self):
        tongue, wants = plain_tongue("abc", 2), wants_for(2)
        for ahead in ("", "a", "b", "c"):
            parts = [(ahead, "a", (1, 3)), (ahead, "b", (1, 6)), (ahead, "c", (1, 2))]
            self.assertIs(lets_shares(tongue, wants, ((1, 1), parts, [(0, 1)] * 2)), True)
            above = [*parts[:2], (ahead, "c", as_tuple(Fraction(1, 2) + LITTLE))]
            self.assertIs(lets_shares(tongue, wants, ((1, 1), above, [(0, 1)] * 2)), False)
        parts = [(ahead, "b", (1, 1)) for ahead in ("", "a", "b", "c")]
        self.assertIs(lets_shares(tongue, wants, ((1, 1), parts, [(0, 1)] * 2)), True)
        # Also of parts that no text goes along.
        tongue = (tongue[0], ["a"], ["ba"], 1)
        for ahead in ("", "b"):
            self.assertIs(lets_shares(tongue, wants, ((0, 1), [(ahead, "a", (1, 1))], [(0, 1)] * 2)), True)
            self.assertIs(lets_shares(tongue, wants, ((0, 1), [(ahead, "a", (2, 1))], [(0, 1)] * 2)), False)

    def test_whole_nought(self):
        wants = wants_for(2)
        self.assertIs(lets_shares(plain_tongue(), wants, ((0, 1), [], [(1, 1), (2, 1)])), True)
        self.assertIs(lets_shares(plain_tongue(), wants, ((0, 1), HALVES, [(1, 1), (2, 1)])), True)
        self.assertIs(lets_shares(plain_tongue(), wants, ((0, 1), HALVES, [(1, 1), (21, 10)])), False)

    def test_values_of_nought_and_counts_of_nought(self):
        for tongue in (sample_tongue(), plain_tongue("abcdef", 8)):
            self.assertIs(lets_shares(tongue, wants_for(3), ((5, 1), [], [(0, 1)] * 3)), True)
            self.assertIs(lets_shares(tongue, [("x", 0)], ((5, 1), [], [(0, 1)])), True)
            self.assertIs(lets_shares(tongue, [("x", 0)], ((5, 1), [], [as_tuple(LITTLE)])), False)
        tongue, wants = plain_tongue("ab", 1), [("x", 0), ("y", 0)]
        self.assertIs(lets_shares(tongue, wants, ((6, 1), HALVES, [(3, 1), (3, 1)])), True)
        self.assertIs(lets_shares(tongue, wants, ((6, 1), HALVES, [(3, 1), (31, 10)])), False)

    def test_a_longer_word_may_cost_less(self):
        tongue = ([sign("a", (1, 1), (100, 1)), sign("b", (50, 1), (2, 1))], ["b"], [], 3)
        self.assertIs(lets_shares(tongue, [("x", 3)], ((0, 1), [], [(9, 1)])), True)
        self.assertIs(lets_shares(tongue, [("x", 3)], ((0, 1), [], [(10, 1)])), False)

    def test_tongues_without_words(self):
        for tongue in wordless_tongues()[::2]:
            self.assertIs(lets_shares(tongue, [("x", 1)], ((0, 1), [], [(10 ** 9, 1)])), True)
        self.assertIs(lets_shares(wordless_tongues()[1], [("x", 1)], ((0, 1), [], [(2, 1)])), True)

    def test_just_5000_texts_looked_at_and_one_more(self):
        for count, value in ((0, as_tuple(LITTLE)), (1, (10 ** 9, 1)), (0, (5, 1))):
            wants = [("x", 0), ("y", count)]
            shares = ((0, 1), [], [(0, 1), value])
            self.assertIs(lets_shares(tongue_of_5000_texts("abcde"), wants, shares), True)
            self.assertIs(lets_shares(tongue_of_5001_texts("abcde"), wants, shares), False)
        # It is asked for each thing alone.
        wants, values = wants_for(20), [(10 ** 9, 1)] * 20
        self.assertIs(lets_shares(tongue_of_5000_texts("abcde"), wants, ((0, 1), [], values)), True)

    def test_texts_are_not_looked_at_behind_dear_begins(self):
        # 6 and 36 and 216 and 1296 texts are looked at where the value is just what four signs cost, then 7776 more.
        signs = [sign(letter, (1, 3), None) for letter in "abcdef"]
        tongue = (signs, [], [], 8)
        wants = [("x", 3)]
        for value, told in (((1, 1), True), ((4, 1), True), (as_tuple(4 + LITTLE), False), ((10 ** 9, 1), False)):
            self.assertIs(lets_shares(tongue, wants, ((0, 1), [], [value])), told)
            self.assertIs(lets_shares(tongue, [("x", 3), ("y", 1)], ((0, 1), [], [(0, 1), (0, 1)])), True)

    def test_wrong_words_that_are_looked_at_last(self):
        tongue = ([sign("a", (1, 1), None), sign("b", (1, 1), None), sign("c", (1, 1), (1, 2))], ["c"], [], 4)
        self.assertIs(lets_shares(tongue, [("x", 2)], ((0, 1), [], [(3, 1)])), True)
        self.assertIs(lets_shares(tongue, [("x", 2)], ((0, 1), [], [as_tuple(3 + LITTLE)])), False)
        tongue = (tongue[0], ["c"], ["ac", "bc"], 4)
        self.assertIs(lets_shares(tongue, [("x", 2)], ((0, 1), [], [(10 ** 9, 1)])), True)
        tongue = ([*tongue[0], sign("d", (1, 1), None)], ["c"], ["ac", "bc", "dd", "da", "db"], 4)
        self.assertIs(lets_shares(tongue, [("x", 2)], ((0, 1), [], [(3, 1)])), True)
        self.assertIs(lets_shares(tongue, [("x", 2)], ((0, 1), [], [(4, 1)])), False)

    def test_wrong_things(self):
        tongue = sample_tongue()
        for many in (1, 3):
            self.assertIs(lets_shares(tongue, wants_for(many), ((1, 2), [("", "a", (1, 2))], [(0, 1)] * many)), True)
            for thing in spoilt_shares("a", "d", "e", many):
                self.assertIs(lets_shares(tongue, wants_for(many), thing), False)


class ClaimTest(TestCase):

    def test_claims(self):
        self.assertEqual(claim_of_shares(((0, 1), [], [(1, 2), (1, 3)])), (5, 6))
        self.assertEqual(claim_of_shares(((1, 2), [], [(1, 2), (1, 3)])), (1, 3))
        self.assertEqual(claim_of_shares(((7, 3), [("", "a", (1, 1))], [(0, 1)])), (-7, 3))
        self.assertEqual(claim_of_shares(((5, 6), [], [(1, 2), (1, 3)])), (0, 1))

    def test_shares_with_a_claim_below_nought_are_let_by(self):
        self.assertIs(lets_shares(plain_tongue(), wants_for(2), ((7, 1), HALVES, [(0, 1), (1, 1)])), True)
