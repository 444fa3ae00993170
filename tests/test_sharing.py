"""Point 22: shares told for a tongue and wants."""

from fractions import Fraction
from unittest import TestCase

from dearsigns.cheapest import cheapest_book
from dearsigns.errors import DearError, TooMany
from dearsigns.shares import claim_of_shares, lets_shares
from dearsigns.sharing import shares_for
from tests.helpers import as_fraction, plain_tongue, sample_tongue, sign, slow_least, slow_price, slow_words, \
    small_cases, some_tongues, tongue_of_5000_texts, tongue_of_5001_texts, wants_for, wordless_tongues


def plain_bound(tongue, wants):
    """The sum, over the things, of count times the least price of a word."""
    least = min([slow_price(tongue, word) for word in slow_words(tongue)], default=Fraction(0))
    return sum(count for name, count in wants) * least


class SharingTest(TestCase):

    def claim(self, tongue, wants):
        """What the told shares claim, once they were found to be let by and to claim enough."""
        shares = shares_for(tongue, wants)
        self.assertIs(lets_shares(tongue, wants, shares), True)
        claim = as_fraction(claim_of_shares(shares))
        self.assertGreaterEqual(claim, plain_bound(tongue, wants))
        return claim

    def test_small_tongues_against_all_books(self):
        for tongue, wants in small_cases(60):
            claim = self.claim(tongue, wants)
            least = slow_least(tongue, wants, False)
            if least is not None:
                self.assertLessEqual(claim, least)

    def test_some_tongues(self):
        reached = []
        for number, tongue in enumerate(some_tongues(60)):
            wants = wants_for(1 + number % 6, number % 4)
            claim = self.claim(tongue, wants)
            cost = cheapest_book(tongue, wants, False)[1]
            if cost is not None:
                self.assertLessEqual(claim, as_fraction(cost))
                reached.append(claim / as_fraction(cost) if cost != (0, 1) else 1)
        # Not promised, but what they are for: the prices alone claim six tenths of what the cheapest books cost.
        self.assertGreater(sum(reached) / len(reached), Fraction(94, 100))

    def test_what_the_prices_alone_do_not_claim(self):
        # Not promised, but what they are for: here they claim just what the cheapest book costs.
        self.assertEqual(self.claim(plain_tongue("ab", 3), [("x", 1), ("y", 1), ("z", 2)]), 6)
        self.assertEqual(self.claim(plain_tongue("abc", 3), wants_for(3, 5)), 18)

    def test_one_and_twenty_things_and_counts_of_nought(self):
        for tongue in (sample_tongue(), plain_tongue("abcdef", 4)):
            self.claim(tongue, wants_for(1))
            self.claim(tongue, wants_for(20))
            self.claim(tongue, [("x", 0)])
            self.claim(tongue, [("x", 0), ("y", 10 ** 9), ("z", 0)])

    def test_no_room_for_so_many_words(self):
        for many in (3, 20):
            self.claim(plain_tongue("ab", 1), wants_for(many))
            self.claim(plain_tongue("ab", 1), [(name, 0) for name, count in wants_for(many)])
        self.claim(([sign("a"), sign("b", (1, 1), None)], ["b"], ["ab"], 8), wants_for(2))

    def test_tongues_without_words(self):
        tongues = [*wordless_tongues(), tongue_of_5000_texts("abcde"), ([sign("a"), sign("b")], ["a", "b"], [], 1)]
        for tongue in [tongue for tongue in tongues if len(tongue[0]) != 3]:
            self.assertGreaterEqual(self.claim(tongue, wants_for(3)), 0)

    def test_far_prices(self):
        far = 10 ** 9 - 1
        signs = [sign("a", (1, far), (far, 1)), sign("b", (far, far - 1), (1, far - 2)), sign("c", (far, 1), None)]
        for longest in (1, 2, 5):
            self.claim((signs, [], ["ab"], longest), wants_for(4, 10 ** 8))

    def test_just_5000_texts_and_one_more(self):
        for lastless in ("", "abd", "abcde"):
            shares = shares_for(tongue_of_5000_texts(lastless), wants_for(3))
            self.assertIs(lets_shares(tongue_of_5000_texts(lastless), wants_for(3), shares), True)
            with self.assertRaises(TooMany) as caught:
                shares_for(tongue_of_5001_texts(lastless), wants_for(3))
            self.assertIsInstance(caught.exception, DearError)
        with self.assertRaises(TooMany):
            shares_for(plain_tongue("abcdef", 8), wants_for(1))
