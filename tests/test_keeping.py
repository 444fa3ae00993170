"""Point 3 and the interface's first rows: nothing is changed or kept, and which refusal comes first."""

from copy import deepcopy
from unittest import TestCase

from dearsigns.allbooks import all_books, costs_of_all
from dearsigns.binding import bound_book
from dearsigns.books import comes_ahead, cost_of, what_is_wrong
from dearsigns.casereader import read_case, read_fraction
from dearsigns.casewriter import write_case
from dearsigns.cheapest import cheapest_book
from dearsigns.columns import columns_of
from dearsigns.counting import books_many, sets_by_size
from dearsigns.errors import DearError, NoTongue, NoWants, TooMany
from dearsigns.floors import claim_of_floors, lets_floors
from dearsigns.mending import mend
from dearsigns.numbers import sum_of
from dearsigns.parts import candidates_of
from dearsigns.reading import read_row
from dearsigns.reasons import is_reason, lets_tree
from dearsigns.seeking import seek_book
from dearsigns.shares import claim_of_shares, lets_shares
from dearsigns.sharing import shares_for
from dearsigns.tongues import look_at_tongue
from dearsigns.trees import book_of, tree_of
from dearsigns.turning import dearer, more_often, put_book, put_wants, turned_book, turned_text, turned_tongue
from dearsigns.wants import look_at_wants
from dearsigns.words import is_word, may_come, may_stand, price_of, text_counts, way_of, word_counts, words_of
from dearsigns.writing import write_row
from tests.helpers import ANYTHING, plain_tongue, sample_tongue, spoilt_tongues, spoilt_wants, tongue_of_5001_texts, \
    wants_for

BOOK = ["dd", "ab", "db", "ac"]
TREE = [("d", [("d", 0), ("b", 2)]), ("a", [("c", 3), ("b", 1)])]
FLOORS = {("", 0, 3, (0, 1)): (1, 2), ("b", 3, 1, (2, 3)): None, ("a", 1, 0, (1,)): (0, 1)}
SHARES = ((1, 2), [("", "a", (1, 2)), ("a", "b", (1, 3)), ("a", "c", (2, 3))], [(1, 9), (0, 1)])
PART = [("a", "on"), ("ab", "ends"), ("d", "unused")]
REASONS = [("few",), ("must",), ("dead", "a"), ("cheapest",), ("shares", *SHARES)]
REASON_TREE = ("split", "a", (("dead", "a"), ("split", "ab", (("cheapest",), ("few",), ("cheapest",))), REASONS[4]))
BOUND = [{}, {1: "dd"}, {3: "dd", 0: "acdb"}, {1: "no"}]
ELDERS = [["dd", None, "acb", "dd"], ["cd", "cb", "dd", "x"], BOOK]

# Each function that takes a tongue, with what is handed in behind the tongue.
OF_A_TONGUE = [
    (look_at_tongue, []), (may_stand, ["d"]), (is_word, ["d"]), (may_come, ["", "d"]), (may_come, ["a", "b"]),
    (way_of, ["dd"]), (price_of, ["dd"]), (words_of, []), (word_counts, []), (text_counts, []),
    (comes_ahead, ["dd", "ab"]), (what_is_wrong, [wants_for(4), BOOK]), (what_is_wrong, [wants_for(4), BOOK, True]),
    (cost_of, [wants_for(4), BOOK]), (tree_of, [BOOK]), (book_of, [4, TREE]), (columns_of, [BOOK]),
    (lets_floors, [wants_for(4), FLOORS, False]), (lets_floors, [wants_for(4), FLOORS, True]),
    (cheapest_book, [wants_for(4), False]), (cheapest_book, [wants_for(4), True]),
    (lets_shares, [wants_for(2), SHARES]), (shares_for, [wants_for(4)]), (candidates_of, [PART]),
    *[(is_reason, [wants_for(2), (1, 2), PART, reason]) for reason in REASONS],
    (lets_tree, [wants_for(2), (1, 2), REASON_TREE]), (seek_book, [wants_for(4), (29, 6), 400]),
    (seek_book, [wants_for(4), (1, 2), 400]), (seek_book, [wants_for(8), (60, 1), 400]),
    *[(bound_book, [wants_for(4), bound, ordered]) for bound in BOUND for ordered in (False, True)],
    *[(mend, [wants_for(4), elder, (1, 2), ordered]) for elder in ELDERS for ordered in (False, True)],
    (sets_by_size, [7]), (books_many, [4, False]), (books_many, [4, True]), (all_books, [1, False]),
    (all_books, [1, True]), (costs_of_all, [wants_for(1), False]), (costs_of_all, [wants_for(1), True]),
    (turned_tongue, [["z", "a", "q", "c"]]), (turned_text, [["z", "a", "q", "c"], "dacb"]),
    (turned_book, [["z", "a", "q", "c"], BOOK]), (dearer, [(7, 3)]),
]
OF_WANTS = [
    (what_is_wrong, [BOOK]), (what_is_wrong, [None, True]), (what_is_wrong, [BOOK, False]), (cost_of, [BOOK]),
    (lets_floors, [FLOORS, False]), (lets_floors, [None, True]), (cheapest_book, [False]), (cheapest_book, [True]),
    (lets_shares, [SHARES]), (lets_shares, [None]), (shares_for, []), (is_reason, [(1, 2), PART, REASONS[-1]]),
    (is_reason, [(1, 2), [], None]), (lets_tree, [(1, 2), REASON_TREE]), (lets_tree, [(1, 2), None]),
    (seek_book, [(1, 2), 400]), (bound_book, [BOUND[1], False]), (bound_book, [BOUND[0], True]),
    (mend, [ELDERS[0], (1, 2), False]), (mend, [ELDERS[1], (0, 1), True]), (costs_of_all, [False]),
    (costs_of_all, [True]),
]


def spoil(thing):
    """Changes every list and dict in what was told."""
    if type(thing) in (list, tuple):
        for part in thing:
            spoil(part)
    if type(thing) is list:
        thing.append("spoilt")
        thing.reverse()
    if type(thing) is dict:
        for key in list(thing)[::2]:
            thing[key] = "spoilt"
        thing["spoilt"] = thing.pop(list(thing)[-1]) if thing else None


class KeepingTest(TestCase):

    def calls(self):
        """Functions with what is handed in, ordinary ones all."""
        made = [(function, [sample_tongue(), *deepcopy(rest)]) for function, rest in OF_A_TONGUE]
        made += [(look_at_wants, [wants_for(20)]), (sum_of, [[(1, 2), (1, 3)]]), (write_row, [list(BOOK), [0, 3, 0]]),
                 (read_row, [list(BOOK), "ddacdb"]), (claim_of_floors, [wants_for(2), dict(FLOORS)]),
                 (claim_of_shares, [deepcopy(SHARES)]), (seek_book, [plain_tongue("ab", 3), wants_for(3), (9, 1), 9]),
                 (put_wants, [wants_for(3), [1, 2, 0]]), (put_book, [list(BOOK), [3, 1, 2, 0]]),
                 (more_often, [wants_for(3), 7]), (write_case, [(sample_tongue(), wants_for(4), list(BOOK))]),
                 (read_case, [write_case((sample_tongue(), wants_for(4), list(BOOK)))]), (read_fraction, ["-1/2"]),
                 (all_books, [plain_tongue("ab", 2), 3, False])]
        return made

    def test_what_is_handed_in_stays(self):
        for function, handed in self.calls():
            before = deepcopy(handed)
            function(*handed)
            self.assertEqual(handed, before, function)

    def test_what_is_refused_stays(self):
        tongue, wants = sample_tongue(), wants_for(4)
        for thing in ANYTHING:
            before = repr(thing)
            for function, handed in ((look_at_tongue, [thing]), (look_at_wants, [thing]), (write_row, [["ab"], thing]),
                                     (write_row, [thing, thing]), (book_of, [tongue, 2, thing]),
                                     (what_is_wrong, [tongue, wants, thing]), (words_of, [thing]),
                                     (cost_of, [tongue, thing, BOOK]), (read_row, [["ab"], thing]),
                                     (read_row, [thing, thing]), (lets_floors, [tongue, wants, thing, False]),
                                     (cheapest_book, [tongue, thing, True]), (lets_shares, [tongue, wants, thing]),
                                     (is_reason, [tongue, wants, (1, 2), [], thing]),
                                     (lets_tree, [tongue, wants, (1, 2), thing]), (shares_for, [tongue, thing]),
                                     (put_wants, [wants, thing]), (put_book, [["a", "b"], thing]),
                                     (turned_tongue, [tongue, thing]), (dearer, [tongue, thing]),
                                     (more_often, [wants, thing]), (read_case, [thing]), (read_fraction, [thing]),
                                     (mend, [tongue, thing, [], (0, 1), False])):
                try:
                    function(*handed)
                except DearError:
                    pass
            self.assertEqual(repr(thing), before)
        self.assertEqual((tongue, wants), (sample_tongue(), wants_for(4)))

    def test_what_is_told_is_the_askers_own(self):
        for function, handed in self.calls():
            told = function(*handed)
            before = deepcopy(told)
            spoil(told)
            self.assertEqual(function(*handed), before, function)

    def test_what_was_told_stays_when_the_handed_in_changes(self):
        for function, handed in self.calls():
            told = function(*handed)
            before = deepcopy(told)
            spoil(handed)
            self.assertEqual(told, before, function)

    def test_nothing_hangs_on_what_was_asked_ahead(self):
        alone = [function(*handed) for function, handed in self.calls()]
        for thing, part in spoilt_tongues()[:40]:
            with self.assertRaises(NoTongue):
                words_of(thing)
        again = [function(*handed) for function, handed in reversed(self.calls())]
        self.assertEqual(alone, again[::-1])

    def test_a_changed_tongue_is_told_of_as_it_is_then(self):
        tongue = plain_tongue("ab", 2)
        self.assertEqual(words_of(tongue), ["a", "b", "aa", "ab", "ba", "bb"])
        tongue[1].append("b")
        self.assertEqual(words_of(tongue), ["a", "aa", "ab"])
        self.assertIs(is_word(tongue, "b"), False)
        self.assertEqual(word_counts(tongue), [1, 2])
        tongue[2].append("aa")
        self.assertEqual(words_of(tongue), ["a", "ab"])
        self.assertIs(may_come(tongue, "a", "a"), False)
        self.assertEqual(text_counts(tongue), [1, 1])
        tongue[0][0] = ("a", (5, 1), None)
        self.assertEqual(words_of(tongue), ["ab"])
        self.assertEqual(price_of(tongue, "ab"), (6, 1))
        tongue[0].reverse()
        del tongue[1][:]
        self.assertEqual(words_of(tongue), ["b", "bb", "ab"])
        self.assertIs(comes_ahead(tongue, "b", "ab"), True)
        self.assertEqual(tree_of(tongue, ["ab", "b"]), [("b", 1), ("a", [("b", 0)])])
        tongue[0].pop()
        with self.assertRaises(NoTongue) as caught:
            words_of(tongue)
        self.assertEqual(caught.exception.part, "signs")


class FirstRefusalTest(TestCase):

    def test_no_tongue_comes_ahead_of_all_else(self):
        spoilt = spoilt_tongues()
        for function, rest in OF_A_TONGUE:
            for thing, part in spoilt:
                with self.assertRaises(NoTongue) as caught:
                    function(thing, *rest)
                self.assertEqual(caught.exception.part, part)

    def test_no_tongue_comes_ahead_of_other_wrong_things(self):
        for thing, part in spoilt_tongues():
            for function, rest in ((may_stand, [None]), (is_word, [[]]), (what_is_wrong, [None, None]),
                                   (what_is_wrong, [wants_for(2), None]), (cost_of, [None, BOOK]),
                                   (book_of, [1, None]), (lets_floors, [None, None, False]),
                                   (lets_floors, [wants_for(20), {}, False]), (cheapest_book, [None, True]),
                                   (cheapest_book, [wants_for(20), True]), (lets_shares, [None, None]),
                                   (shares_for, [None]), (is_reason, [None, (1, 2), [], None]),
                                   (lets_tree, [None, (1, 2), None]), (seek_book, [None, (1, 2), 1]),
                                   (bound_book, [None, {}, False]), (bound_book, [wants_for(20), {}, False]),
                                   (mend, [None, [], (0, 1), False]), (mend, [wants_for(20), [], (0, 1), True])):
                with self.assertRaises(NoTongue) as caught:
                    function(thing, *rest)
                self.assertEqual(caught.exception.part, part)

    def test_then_no_wants(self):
        for function, rest in OF_WANTS:
            for thing, number in spoilt_wants():
                with self.assertRaises(NoWants) as caught:
                    function(sample_tongue(), thing, *rest)
                self.assertEqual(caught.exception.number, number)

    def test_no_wants_come_ahead_of_too_many(self):
        tongue = tongue_of_5001_texts()
        for function, rest in ((shares_for, []), (is_reason, [(1, 2), [], None]), (lets_tree, [(1, 2), None]),
                               (seek_book, [(1, 2), 1])):
            with self.assertRaises(TooMany):
                function(tongue, wants_for(2), *rest)
            for thing, number in spoilt_wants():
                with self.assertRaises(NoWants) as caught:
                    function(tongue, thing, *rest)
                self.assertEqual(caught.exception.number, number)

    def test_no_wants_where_no_tongue_is_handed_in(self):
        for thing, number in spoilt_wants():
            with self.assertRaises(NoWants) as caught:
                claim_of_floors(thing, {})
            self.assertEqual(caught.exception.number, number)
