"""Points 24 and 25: reasons, and trees of them."""

from fractions import Fraction
from functools import cache
from random import Random
from unittest import TestCase

from dearsigns.errors import DearError, TooMany
from dearsigns.reasons import is_reason, lets_tree
from dearsigns.seeking import seek_book
from tests.helpers import ANYTHING, MOST_OF_REASONS, TOO_MANY_FOR_REASONS, as_fraction, as_tuple, goes_with_part, \
    nested, nested_tuples, next_texts, plain_tongue, sample_tongue, sign, slow_books, slow_candidates, slow_least, \
    slow_price, slow_share, slow_words, small_cases, some_part, spoilt_shares, tongue_with, tree_size, wants_for

LITTLE = Fraction(1, 10 ** 50)
FEW = ("few",)
# No words, and two hundred and fifty-eight texts: fewer words than things, whatever is said.
WORDLESS = tongue_with("abcdef", "abcdef", [], [], 3)


def slow_is_reason(tongue, wants, least, part, reason):
    """Whether a reason of the right form is so, as the document tells it."""
    said = dict(part)
    candidates = slow_candidates(tongue, part)
    ends = [text for text in said if said[text] == "ends"]
    words = slow_words(tongue)
    if reason == FEW:
        return len(candidates) < len(wants)
    if reason == ("must",):
        return len(ends) > len(wants)
    if reason[0] == "dead":
        text = reason[1]
        if said.get(text) == "on":
            return not [word for word in candidates if word.startswith(text)]
        return said.get(text) == "ends" and text not in words
    if reason == ("cheapest",):
        if len(candidates) < len(wants) or len(ends) > len(wants) or [text for text in ends if text not in words]:
            return False
        others = sorted(slow_price(tongue, word) for word in candidates if word not in ends)
        prices = sorted([slow_price(tongue, word) for word in ends] + others[:len(wants) - len(ends)])
        counts = sorted([count for name, count in wants], reverse=True)
        return sum(price * count for price, count in zip(prices, counts)) >= least
    whole, parts, values = reason[1:]
    if sum(as_fraction(value) for value in values) - as_fraction(whole) < least:
        return False
    return all(as_fraction(value) <= count * slow_price(tongue, word) + slow_share(whole, parts, word)
               for word in candidates for (name, count), value in zip(wants, values))


def even_shares(tongue, wants, part, whole):
    """Shares with equal parts and the greatest values that are right for the candidates of a part."""
    letters = [row[0] for row in tongue[0]]
    parts = [(ahead, letter, (1, len(letters))) for ahead in ["", *letters] for letter in letters]
    candidates = slow_candidates(tongue, part)
    values = [as_tuple(min([count * slow_price(tongue, word) + slow_share(whole, parts, word) for word in candidates],
                           default=Fraction(1))) for name, count in wants]
    return ("shares", whole, parts, values)


def claim(shares):
    return sum(as_fraction(value) for value in shares[3]) - as_fraction(shares[1])


class ReasonTest(TestCase):

    def test_few(self):
        tongue = plain_tongue("ab", 2)
        for many in (1, 2, 5, 6, 7):
            self.assertIs(is_reason(tongue, wants_for(many), (0, 1), [], FEW), many > 6)
        self.assertIs(is_reason(tongue, wants_for(3), (0, 1), [("a", "unused")], FEW), False)
        self.assertIs(is_reason(tongue, wants_for(4), (0, 1), [("a", "unused")], FEW), True)
        # As many candidates as things.
        part = [("a", "ends"), ("b", "ends")]
        self.assertIs(is_reason(tongue, wants_for(2), (0, 1), part, FEW), False)
        self.assertIs(is_reason(tongue, wants_for(3), (0, 1), part, FEW), True)
        self.assertIs(is_reason(WORDLESS, wants_for(1), (0, 1), [], FEW), True)

    def test_must(self):
        tongue = plain_tongue("abc", 2)
        part = [("a", "ends"), ("b", "ends")]
        for many in (1, 2, 3):
            self.assertIs(is_reason(tongue, wants_for(many), (0, 1), part, ("must",)), many < 2)
        self.assertIs(is_reason(tongue, wants_for(1), (0, 1), [("a", "on"), ("b", "ends")], ("must",)), False)
        self.assertIs(is_reason(tongue, wants_for(1), (0, 1), [], ("must",)), False)
        # Also texts that are no words are counted.
        self.assertIs(is_reason(WORDLESS, wants_for(1), (0, 1), part, ("must",)), True)

    def test_dead(self):
        tongue = tongue_with("abc", "c", [], ["bb", "bc", "ba"], 2)
        for text, part, told in (
                ("b", [("b", "on")], True), ("b", [("b", "ends")], False), ("b", [("b", "unused")], False),
                ("c", [("c", "ends")], True), ("c", [("c", "on")], False), ("c", [("c", "unused")], False),
                ("a", [("b", "on")], False), ("b", [], False), ("", [("b", "on")], False), ("", [], False),
                ("c", [("c", "on"), ("ca", "unused"), ("cb", "unused")], True),
                ("c", [("c", "on"), ("ca", "unused"), ("cb", "ends")], False),
                ("c", [("c", "on"), ("ca", "unused"), ("cc", "unused")], False),
                ("cc", [("c", "on"), ("cc", "ends")], True), ("cc", [("c", "on"), ("cc", "on")], True),
                ("ca", [("c", "on"), ("ca", "on")], True), ("ca", [("c", "on"), ("ca", "ends")], False)):
            self.assertIs(is_reason(tongue, wants_for(1), (0, 1), part, ("dead", text)), told, (text, part))

    def test_cheapest(self):
        tongue = ([sign("a", (1, 1), (2, 1)), sign("b", (3, 1), (5, 1))], [], [], 2)
        # Prices: a 2, aa 3, b 5, ba 5, ab 6, bb 8.
        wants = [("x", 1), ("y", 10), ("z", 4)]
        for part, cost in (([], 20 + 12 + 5), ([("a", "on")], 30 + 20 + 5), ([("b", "ends")], 20 + 12 + 5),
                           ([("a", "on"), ("ab", "ends")], 30 + 20 + 6),
                           ([("a", "ends"), ("b", "on"), ("bb", "ends")], 20 + 20 + 8)):
            for least, told in (((cost, 1), True), ((cost - 1, 1), True), ((-5, 1), True), ((0, 1), True),
                                (as_tuple(cost + LITTLE), False), ((cost + 1, 1), False)):
                self.assertIs(is_reason(tongue, wants, least, part, ("cheapest",)), told, (part, least))

    def test_cheapest_asks_for_enough_candidates_and_no_more_ends_than_things(self):
        tongue = plain_tongue("ab", 2)
        for part, many, told in (([], 6, True), ([], 7, False), ([("a", "ends"), ("b", "ends")], 2, True),
                                 ([("a", "ends"), ("b", "ends")], 1, False), ([("a", "ends"), ("b", "ends")], 3, False),
                                 ([("a", "unused"), ("b", "unused")], 1, False)):
            self.assertIs(is_reason(tongue, wants_for(many), (0, 1), part, ("cheapest",)), told, (part, many))
        tongue = tongue_with("abc", "c", [], [], 2)
        self.assertIs(is_reason(tongue, wants_for(2), (0, 1), [("c", "ends")], ("cheapest",)), False)
        self.assertIs(is_reason(tongue, wants_for(2), (0, 1), [("c", "on")], ("cheapest",)), True)
        self.assertIs(is_reason(tongue, [("x", 0), ("y", 0)], (0, 1), [], ("cheapest",)), True)
        self.assertIs(is_reason(tongue, [("x", 0), ("y", 0)], (1, 9), [], ("cheapest",)), False)

    def test_shares(self):
        tongue, wants = plain_tongue("ab", 3), [("x", 1), ("y", 1), ("z", 2)]
        parts = [(ahead, letter, (1, 2)) for ahead in ("", "a", "b") for letter in "ab"]
        reason = ("shares", (4, 1), parts, [(3, 1), (3, 1), (4, 1)])
        self.assertIs(is_reason(tongue, wants, (6, 1), [], reason), True)
        self.assertIs(is_reason(tongue, wants, (-6, 1), [], reason), True)
        self.assertIs(is_reason(tongue, wants, as_tuple(6 + LITTLE), [], reason), False)
        for place in range(3):
            values = list(reason[3])
            values[place] = as_tuple(as_fraction(values[place]) + LITTLE)
            self.assertIs(is_reason(tongue, wants, (6, 1), [], (*reason[:3], values)), False)
        # Words that are no candidates are not asked.
        dearer = ("shares", (2, 1), parts, [(5, 2), (5, 2), (9, 2)])
        self.assertIs(is_reason(tongue, wants, (15, 2), [], dearer), False)
        self.assertIs(is_reason(tongue, wants, (15, 2), [("a", "on")], dearer), False)
        self.assertIs(is_reason(tongue, wants, (15, 2), [("a", "on"), ("b", "on")], dearer), True)
        self.assertIs(is_reason(tongue, wants, (15, 2), [("a", "unused"), ("b", "unused")], dearer), True)
        self.assertIs(is_reason(tongue, wants, (8, 1), [("a", "on"), ("b", "on")], dearer), False)

    def test_parts_hang_on_the_sign_ahead(self):
        tongue = ([sign("a", (1, 1), None), sign("b")], [], [], 2)
        parts = [("", "a", (1, 2)), ("", "b", (1, 2)), ("a", "b", (1, 4)), ("b", "b", (3, 4)), ("b", "a", (1, 4))]
        # "b" costs 1 and has the share 4, "ab" 2 and 1, "bb" 2 and 3.
        for part, value in (([], 3), ([("a", "unused")], 5), ([("a", "unused"), ("b", "ends")], 5), ([("b", "on")], 3),
                            ([("b", "on"), ("a", "unused")], 5), ([("b", "ends")], 3)):
            for raised, told in ((value, True), (value + LITTLE, False)):
                reason = ("shares", (8, 1), parts, [as_tuple(Fraction(raised))])
                self.assertIs(is_reason(tongue, [("x", 1)], as_tuple(Fraction(value - 8)), part, reason), told)

    def test_against_slow_reasons(self):
        chance = Random(24)
        seen = {}
        for tongue, wants in small_cases(40, 3):
            least = slow_least(tongue, wants, False) or Fraction(3)
            for step in range(12):
                part = some_part(chance, tongue, chance.randint(0, 5))
                wanted = least * chance.choice([Fraction(1, 2), 1, 1, 2])
                texts = [text for text, word in part] + ["", "a"]
                shares = even_shares(tongue, wants, part, (chance.choice([0, 1, 5, 50, 1000]), chance.randint(1, 1)))
                raised = (*shares[:3], [as_tuple(as_fraction(shares[3][0]) + LITTLE), *shares[3][1:]])
                for reason in (FEW, ("must",), ("dead", chance.choice(texts)), ("cheapest",), shares, raised):
                    told = is_reason(tongue, wants, as_tuple(wanted), part, reason)
                    self.assertIs(told, slow_is_reason(tongue, wants, wanted, part, reason), (part, reason))
                    key = (reason[0], told)
                    seen[key] = seen.get(key, 0) + 1
        self.assertEqual(len(seen), 10)

    def test_no_book_that_goes_with_the_part_costs_less(self):
        chance = Random(25)
        for tongue, wants in small_cases(30, 3):
            prices = {word: slow_price(tongue, word) for word in slow_words(tongue)}
            books = [(sum(count * prices[word] for (name, count), word in zip(wants, book)), book)
                     for book in slow_books(tongue, len(wants))]
            for step in range(6):
                part = some_part(chance, tongue, chance.randint(0, 4))
                costs = [cost for cost, book in books if goes_with_part(book, part)]
                least = min(costs, default=None)
                if least is not None:
                    for reason in (FEW, ("must",), ("cheapest",), even_shares(tongue, wants, part, (9, 1)),
                                   *[("dead", text) for text, word in part]):
                        self.assertIs(is_reason(tongue, wants, as_tuple(least + LITTLE), part, reason), False)

    def test_wrong_things(self):
        tongue, wants = sample_tongue(), wants_for(3)
        part = [("a", "on"), ("d", "ends"), ("c", "unused")]
        wrong = ANYTHING + [
            "few", ["few"], ("few", None), ("few", "a"), ("Few",), (FEW,), [FEW], ("few", ()), {"few": True}, "must",
            ["must"], ("must", "d"), "cheapest", ["cheapest"], ("cheapest", (0, 1)), ("dead",), ("dead", "a", "d"),
            ("dead", None), ("dead", ["a"]), ("dead", ("a",)), ("dead", 0), ("dead", {}), ("dead", nested(300)),
            ("dead", nested_tuples(300)), ["dead", "a"], ("dead", "x"), ("dead", "ad"),
            ("split", "ad", (FEW, FEW, FEW)), (None, None, None, None), ("shares",), ("shares", (0, 1), []),
            ("shares", (0, 1), [], [(9, 1)] * 3, None),
            ("share", (0, 1), [], [(0, 1)] * 3), ["shares", (0, 1), [], [(0, 1)] * 3],
            ("shares", ((0, 1), [], [(0, 1)] * 3)), (True,), (nested(300),), (nested(300), "a"),
        ]
        wrong += [("shares", *thing) for thing in spoilt_shares("a", "d", "e", 3) if isinstance(thing, tuple)]
        for thing in wrong:
            for some in (part, []):
                told = is_reason(tongue, wants, (-9, 1), some, thing)
                self.assertIs(told, False)
                self.assertIs(lets_tree(tongue, wants, (-9, 1), thing), False)
        self.assertIs(is_reason(tongue, wants, (-9, 1), part, ("shares", (0, 1), [], [(0, 1)] * 3)), True)
        dead = [("a", "ends")]
        for word, told in (("dead", True), ("few", False), ("must", False), ("Dead", False), (None, False), (0, False)):
            self.assertIs(is_reason(tongue, wants, (-9, 1), dead, (word, "a")), told)

    def test_sizes(self):
        for tongue in MOST_OF_REASONS:
            for reason, told in ((FEW, False), (("cheapest",), True), (("must",), False)):
                self.assertIs(is_reason(tongue, wants_for(20), (0, 1), [], reason), told)
        for tongue in TOO_MANY_FOR_REASONS:
            for thing in (FEW, ("cheapest",), None, []):
                with self.assertRaises(TooMany) as caught:
                    is_reason(tongue, wants_for(20), (0, 1), [], thing)
                self.assertIsInstance(caught.exception, DearError)


def slow_lets_tree(tongue, wants, least, part, tree):
    """Whether a tree of the right form, not too great, is one of reasons for the part."""
    if tree[0] != "split":
        return slow_is_reason(tongue, wants, least, part, tree)
    if tree[1] not in next_texts(tongue, part):
        return False
    return all(slow_lets_tree(tongue, wants, least, [*part, (tree[1], word)], behind)
               for word, behind in zip(("ends", "on", "unused"), tree[2]))


def tree_of_splits(said, budget, within):
    """A tree with as many splits as budget, a list of one number, tells, not more than so many within one another."""
    if budget[0] == 0 or len(said) == within:
        return FEW
    text = next((text for text in next_texts_all_on(258) if text not in said
                 and all(said.get(text[:deep]) == "on" for deep in range(1, len(text)))), None)
    if text is None:
        return FEW
    budget[0] -= 1
    return ("split", text, tuple(tree_of_splits({**said, text: word}, budget, within)
                                 for word in ("ends", "on", "unused")))


def chain(many, place, inner=FEW):
    """So many splits, each the tree at this place of the one around it."""
    texts = next_texts_all_on(many)
    tree = inner
    for text in reversed(texts):
        trees = [FEW, FEW, FEW]
        trees[place] = tree
        tree = ("split", text, tuple(trees))
    return tree


@cache
def next_texts_all_on(many):
    """So many texts of the tongue without words, each of which may stand next where all ahead of it go on."""
    return [text for length in range(1, 4) for text in texts_of(length)][:many]


@cache
def texts_of(length):
    return [""] if length == 0 else [text + letter for text in texts_of(length - 1) for letter in "abcdef"]


class TreeTest(TestCase):

    def test_by_hand(self):
        tongue = plain_tongue("ab", 2)
        wants = [("x", 1), ("y", 1), ("z", 1)]
        # The cheapest book costs 5, the three cheapest words 4.
        self.assertIs(lets_tree(tongue, wants, (4, 1), ("cheapest",)), True)
        self.assertIs(lets_tree(tongue, wants, (5, 1), ("cheapest",)), False)
        behind_a_ends = ("split", "b", (FEW, ("cheapest",), FEW))
        behind_a_on = ("cheapest",)
        tree = ("split", "a", (behind_a_ends, behind_a_on, FEW))
        self.assertIs(lets_tree(tongue, wants, (5, 1), tree), False)
        tree = ("split", "a", (behind_a_ends, behind_a_on, ("cheapest",)))
        self.assertIs(lets_tree(tongue, wants, (5, 1), tree), True)
        self.assertIs(lets_tree(tongue, wants, (9, 2), tree), True)
        self.assertIs(lets_tree(tongue, wants, as_tuple(5 + LITTLE), tree), False)
        # The three trees belong to three different parts.
        for trees in ((behind_a_on, behind_a_ends, FEW), (FEW, behind_a_on, behind_a_ends),
                      (behind_a_ends, FEW, behind_a_on), (FEW, FEW, FEW)):
            self.assertIs(lets_tree(tongue, wants, (5, 1), ("split", "a", trees)), False)

    def test_told_trees(self):
        chance = Random(26)
        told_splits = 0
        plain = [(plain_tongue("ab", 3), wants_for(3)), (plain_tongue("abc", 2), wants_for(3, 4)),
                 (tongue_with("abc", "a", [], ["bb"], 2), wants_for(4)),
                 (tongue_with("abc", "", ["a"], [], 2), wants_for(3))]
        for tongue, wants in small_cases(40) + plain:
            least = slow_least(tongue, wants, False)
            told = seek_book(tongue, wants, as_tuple(least or Fraction(100)), 4000)
            if told[0] != "none":
                continue
            tree = told[1]
            told_splits += tree[0] == "split"
            for factor in (1, Fraction(1, 2), 0, -1):
                self.assertIs(lets_tree(tongue, wants, as_tuple((least or 100) * factor), tree), True)
            self.assertTrue(slow_lets_tree(tongue, wants, least or 100, [], tree))
            if least is not None:
                self.assertIs(lets_tree(tongue, wants, as_tuple(least + LITTLE), tree), False)
                greater = least * chance.choice([Fraction(3, 2), 2, 9]) + LITTLE
                self.assertIs(lets_tree(tongue, wants, as_tuple(greater), tree), False)
            if tree[0] == "split":
                for spoilt in spoilt_trees(tree):
                    wrong = slow_lets_tree(tongue, wants, least or 100, [], spoilt)
                    self.assertIs(lets_tree(tongue, wants, as_tuple(least or Fraction(100)), spoilt), wrong)
        self.assertGreater(told_splits, 3)

    def test_whoever_wrote_it_no_book_costs_less(self):
        chance = Random(27)
        let_by = 0
        for tongue, wants in small_cases(40, 3):
            least = slow_least(tongue, wants, False)
            if least is None:
                continue
            for step in range(8):
                tree = tree_by_chance(chance, tongue, [], wants)
                for wanted in (least / 2, least, least + LITTLE):
                    told = lets_tree(tongue, wants, as_tuple(wanted), tree)
                    self.assertIs(told, slow_lets_tree(tongue, wants, wanted, [], tree))
                    let_by += told
                self.assertIs(told, False)
        self.assertGreater(let_by, 20)

    def test_split_texts(self):
        tongue = tongue_with("abc", "abc", ["b"], ["aa"], 2)
        for text in ("a", "c"):
            self.assertIs(lets_tree(tongue, wants_for(1), (1, 1), ("split", text, (FEW, FEW, FEW))), True)
        for text in ("", "b", "d", "ab", "ca", "A", None, 0, True, ["a"], ("a",), {}, nested(300), "aaaa"):
            self.assertIs(lets_tree(tongue, wants_for(1), (1, 1), ("split", text, (FEW, FEW, FEW))), False)
        inner = ("split", "ab", (FEW, FEW, FEW))
        self.assertIs(lets_tree(tongue, wants_for(1), (1, 1), ("split", "a", (FEW, inner, FEW))), True)
        self.assertIs(lets_tree(tongue, wants_for(1), (1, 1), ("split", "a", (inner, FEW, FEW))), False)
        self.assertIs(lets_tree(tongue, wants_for(1), (1, 1), ("split", "a", (FEW, FEW, inner))), False)
        self.assertIs(lets_tree(tongue, wants_for(1), (1, 1), ("split", "c", (FEW, inner, FEW))), False)
        for text in ("a", "aa", "abc"):
            again = ("split", text, (FEW, FEW, FEW))
            self.assertIs(lets_tree(tongue, wants_for(1), (1, 1), ("split", "a", (FEW, again, FEW))), False)

    def test_4000_splits_and_reasons_and_more(self):
        for within in (9, 60):
            tree = tree_of_splits({}, [1333], within)
            self.assertEqual(tree_size(tree), 4000)
            self.assertIs(lets_tree(WORDLESS, wants_for(1), (5, 1), tree), True)
            tree = tree_of_splits({}, [1334], within)
            self.assertEqual(tree_size(tree), 4003)
            self.assertIs(lets_tree(WORDLESS, wants_for(1), (5, 1), tree), False)

    def test_100_splits_within_one_another_and_one_more(self):
        for place in (0, 1, 2):
            if place == 1:
                self.assertIs(lets_tree(WORDLESS, wants_for(1), (5, 1), chain(100, place)), True)
            self.assertIs(lets_tree(WORDLESS, wants_for(1), (5, 1), chain(101, place)), False)
            self.assertIs(lets_tree(WORDLESS, wants_for(1), (5, 1), chain(150, place)), False)
            self.assertIs(lets_tree(WORDLESS, wants_for(1), (5, 1), chain(6, place)), True)
        last = ("split", "fff", (FEW, FEW, FEW))
        self.assertIs(lets_tree(WORDLESS, wants_for(1), (5, 1), chain(99, 1, last)), True)
        self.assertIs(lets_tree(WORDLESS, wants_for(1), (5, 1), chain(100, 1, last)), False)
        mixed = chain(40, 1, ("split", texts_of(2)[34], (FEW, chain_behind(59), FEW)))
        self.assertIs(lets_tree(WORDLESS, wants_for(1), (5, 1), mixed), True)
        mixed = chain(40, 1, ("split", texts_of(2)[34], (FEW, chain_behind(60), FEW)))
        self.assertIs(lets_tree(WORDLESS, wants_for(1), (5, 1), mixed), False)

    def test_trees_that_stand_in_many_places(self):
        # Each is one tuple, but it stands there three times as often as the one around it.
        tree = FEW
        for text in reversed(next_texts_all_on(6)):
            tree = ("split", text, (tree, tree, tree))
        self.assertIs(lets_tree(WORDLESS, wants_for(1), (5, 1), tree), True)
        for many in (60, 100):
            tree = FEW
            for text in reversed(next_texts_all_on(many)):
                tree = ("split", text, (FEW, tree, FEW)) if len(text) > 1 else ("split", text, (tree, tree, tree))
            self.assertIs(lets_tree(WORDLESS, wants_for(1), (5, 1), tree), False)
        letters = [text for text in texts_of(1)]
        tree = FEW
        for text in reversed([*letters, *["a" + letter for letter in letters], *["aa" + letter for letter in letters]]):
            tree = ("split", text, (tree, tree, tree))
        self.assertIs(lets_tree(WORDLESS, wants_for(1), (5, 1), tree), False)

    def test_wrong_things(self):
        for thing in ANYTHING + [
                ["split", "a", (FEW, FEW, FEW)], ("split", "a", [FEW, FEW, FEW]), ("split", "a", (FEW, FEW)),
                ("split", "a", (FEW, FEW, FEW, FEW)), ("split", "a"), ("split", "a", FEW, FEW, FEW), ("split",),
                ("split", "a", FEW), ("split", "a", (FEW, None, FEW)), ("split", "a", (FEW, FEW, ["few"])),
                ("split", "a", ()), ("split", "a", None), ("split", "a", "abc"), ("Split", "a", (FEW, FEW, FEW)),
                (None, "a", (FEW, FEW, FEW)), ("split", (FEW, FEW, FEW), "a"), ("split", "a", {0: FEW, 1: FEW, 2: FEW}),
                ("split", "a", (FEW, FEW, nested(300))), ("split", "a", (nested_tuples(300), FEW, FEW)),
                ("split", "a", nested_tuples(300)), ((FEW, FEW, FEW), "a", "split")]:
            self.assertIs(lets_tree(WORDLESS, wants_for(1), (5, 1), thing), False)
        thing = FEW
        for step in range(180):
            thing = ("split", "a", (thing, thing, thing))
        self.assertIs(lets_tree(WORDLESS, wants_for(1), (5, 1), thing), False)
        self.assertIs(lets_tree(WORDLESS, wants_for(1), (5, 1), ("split", "a", (FEW, FEW, FEW))), True)

    def test_sizes(self):
        for tongue in MOST_OF_REASONS:
            self.assertIs(lets_tree(tongue, wants_for(20), (1, 1), ("cheapest",)), True)
        for tongue in TOO_MANY_FOR_REASONS:
            for thing in (("cheapest",), FEW, None, 5):
                with self.assertRaises(TooMany) as caught:
                    lets_tree(tongue, wants_for(20), (1, 1), thing)
                self.assertIsInstance(caught.exception, DearError)


def chain_behind(many):
    """So many splits of texts of three signs, behind texts of one and two that all go on."""
    tree = FEW
    for text in [text for text in texts_of(3) if text[:2] in texts_of(2)[:30]][:many]:
        tree = ("split", text, (FEW, tree, FEW))
    return tree


def spoilt_trees(tree):
    """The tree with its three trees in another order, or with other texts."""
    text, (ends, goes_on, unused) = tree[1:]
    return [("split", text, (goes_on, ends, unused)), ("split", text, (unused, goes_on, ends)),
            ("split", text, (ends, unused, goes_on)), ("split", text, (ends, ends, ends)),
            ("split", text, (FEW, goes_on, unused)), ("split", text, (ends, FEW, unused)),
            ("split", text, (ends, goes_on, FEW)), ("split", text + text, tree[2]),
            ("split", text, (ends, tree, unused)),
            ("split", text, (("cheapest",), ("cheapest",), ("cheapest",)))]


def tree_by_chance(chance, tongue, part, wants):
    """A tree of splits and reasons as they come, most often with reasons that may be so."""
    texts = next_texts(tongue, part)
    if texts and len(part) < 3 and chance.random() < 0.7:
        text = chance.choice(texts)
        return ("split", text, tuple(tree_by_chance(chance, tongue, [*part, (text, word)], wants)
                                     for word in ("ends", "on", "unused")))
    if len(slow_candidates(tongue, part)) < len(wants):
        return FEW
    reason = chance.choice(["cheapest", "cheapest", "shares", "must", "dead"])
    if reason == "shares":
        return even_shares(tongue, wants, part, (3, 1))
    return ("dead", part[0][0] if part else "a") if reason == "dead" else (reason,)
