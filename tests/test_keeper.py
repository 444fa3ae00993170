"""Point 29: keepers, their books mended while counts change."""

from copy import deepcopy
from fractions import Fraction
from random import Random
from unittest import TestCase

from dearsigns.books import cost_of, what_is_wrong
from dearsigns.cheapest import cheapest_book
from dearsigns.errors import DearError, NoBook, NoCount, NoTongue, NoUndo, NoWants, TooMany, Unknown
from dearsigns.keeper import Keeper
from tests.helpers import ANYTHING, as_fraction, as_tuple, costed_books, great_tongue, plain_tongue, sample_tongue, \
    slow_least, small_cases, some_price, spoilt_tongues, spoilt_wants, wants_for, wordless_tongues

BOTH = (False, True)
NO_COUNTS = [thing for thing in ANYTHING if not (type(thing) is int and 0 <= thing <= 10 ** 9)] + [
    -1, 10 ** 9 + 1, 10 ** 59, -10 ** 59, "1", (1, 1), [1]]


def state(keeper):
    return (keeper.wants_now(), keeper.book_now(), keeper.cost_now(), keeper.least_now())


class KeeperTest(TestCase):

    def look_at(self, tongue, keeper, ordered, slack):
        """Whether what a keeper tells goes together."""
        wants, book, cost, least = state(keeper)
        self.assertIsNone(what_is_wrong(tongue, wants, book, ordered))
        self.assertEqual(cost_of(tongue, wants, book), cost)
        self.assertEqual(cheapest_book(tongue, wants, ordered)[1], least)
        self.assertLessEqual(as_fraction(cost), as_fraction(least) + slack)

    def set_and_look(self, tongue, keeper, ordered, slack, name, count):
        """Sets a count and holds what is told and done against going through all books."""
        wants, elder = keeper.wants_now(), keeper.book_now()
        told = keeper.set_count(name, count)
        wants = [(one, count if one == name else old) for one, old in wants]
        self.assertEqual(keeper.wants_now(), wants)
        self.look_at(tongue, keeper, ordered, slack)
        changed = [one for (one, old), word, now in zip(wants, elder, keeper.book_now()) if word != now]
        self.assertEqual(told, changed)
        books = costed_books(tongue, wants, ordered)
        most = min(cost for book, cost in books) + slack
        best = min((sum(one != other for one, other in zip(book, elder)), cost) for book, cost in books if cost <= most)
        self.assertEqual((len(told), as_fraction(keeper.cost_now())), best)
        return len(told)

    def test_against_all_books(self):
        chance = Random(29)
        seen = {}
        for tongue, wants in small_cases(60, most_rows=1000):
            for ordered in BOTH:
                if slow_least(tongue, wants, ordered) is None:
                    continue
                slack = chance.choice([Fraction(0), as_fraction(some_price(chance)), Fraction(1000)])
                keeper = Keeper(tongue, wants, ordered, as_tuple(slack))
                self.assertEqual(keeper.cost_now(), keeper.least_now())
                self.assertEqual(keeper.wants_now(), wants)
                self.look_at(tongue, keeper, ordered, 0)
                states = [state(keeper)]
                for step in range(5):
                    name, count = chance.choice(wants)[0], chance.choice([0, 1, 2, 7, 50, 10 ** 9])
                    told = self.set_and_look(tongue, keeper, ordered, slack, name, count)
                    seen[told] = seen.get(told, 0) + 1
                    states.append(state(keeper))
                for before in states[-2::-1]:
                    self.assertIsNone(keeper.undo())
                    self.assertEqual(state(keeper), before)
                with self.assertRaises(NoUndo):
                    keeper.undo()
                self.assertEqual(state(keeper), states[0])
        self.assertEqual(set(seen), {0, 1, 2, 3})

    def test_a_keeper_by_hand(self):
        keeper = Keeper(plain_tongue("ab", 3), [("x", 1), ("y", 5), ("z", 2)])
        self.assertEqual((keeper.cost_now(), keeper.least_now()), ((11, 1), (11, 1)))
        book = keeper.book_now()
        self.assertEqual(len(book[1]), 1)
        self.assertEqual(keeper.set_count("y", 2), [])
        self.assertEqual((keeper.cost_now(), keeper.least_now()), ((8, 1), (8, 1)))
        self.assertEqual(len(keeper.set_count("x", 9)), 2)
        self.assertEqual(len(keeper.book_now()[0]), 1)
        self.assertEqual(keeper.wants_now(), [("x", 9), ("y", 2), ("z", 2)])
        keeper.undo()
        self.assertEqual((keeper.book_now(), keeper.wants_now()), (book, [("x", 1), ("y", 2), ("z", 2)]))

    def test_ordered_and_slack_have_defaults(self):
        tongue, wants = plain_tongue("ab", 3), [("x", 1), ("y", 5), ("z", 2)]
        self.assertEqual(Keeper(tongue, wants).least_now(), (11, 1))
        self.assertEqual(Keeper(tongue, wants, True).least_now(), (14, 1))
        self.assertEqual(Keeper(tongue, wants, True).book_now(), ["aa", "ab", "b"])
        told = Keeper(tongue, wants).set_count("x", 10)
        self.assertEqual(Keeper(tongue, wants, False, None).set_count("x", 10), told)
        self.assertEqual(Keeper(tongue, wants, False, (0, 1)).set_count("x", 10), told)

    def test_slack_keeps_words(self):
        tongue = plain_tongue("ab", 3)
        for slack, many in (((0, 1), 2), ((3, 1), 2), ((79, 20), 2), ((4, 1), 0), ((999999999, 1), 0)):
            keeper = Keeper(tongue, [("x", 1), ("y", 5), ("z", 2)], False, slack)
            self.assertEqual(len(keeper.set_count("x", 9)), many, slack)
            self.assertEqual(keeper.least_now(), (9 + 10 + 4, 1))
            self.assertEqual(keeper.cost_now(), (23, 1) if many else (27, 1))

    def test_names_are_told_in_the_things_order(self):
        keeper = Keeper(plain_tongue("ab", 3), [("z", 1), ("y", 5), ("x", 2)])
        told = keeper.set_count("z", 9)
        self.assertEqual(told, ["z", "y"])

    def test_a_count_that_was_so_already_is_a_setting(self):
        keeper = Keeper(sample_tongue(), wants_for(3))
        before = state(keeper)
        self.assertEqual(keeper.set_count("b", 2), [])
        self.assertEqual(keeper.set_count("b", 2), [])
        self.assertEqual(state(keeper), before)
        keeper.undo()
        keeper.undo()
        self.assertEqual(state(keeper), before)
        with self.assertRaises(NoUndo) as caught:
            keeper.undo()
        self.assertIsInstance(caught.exception, DearError)

    def test_undone_settings_are_gone(self):
        keeper = Keeper(sample_tongue(), wants_for(3))
        first = state(keeper)
        keeper.set_count("a", 70)
        second = state(keeper)
        keeper.set_count("b", 700)
        keeper.undo()
        self.assertEqual(state(keeper), second)
        keeper.set_count("c", 7000)
        keeper.undo()
        self.assertEqual(state(keeper), second)
        keeper.undo()
        self.assertEqual(state(keeper), first)
        for step in range(3):
            with self.assertRaises(NoUndo):
                keeper.undo()
        keeper.set_count("a", 70)
        self.assertEqual(keeper.wants_now(), second[0])

    def test_the_least_and_the_greatest_count(self):
        keeper = Keeper(sample_tongue(), wants_for(2))
        for count in (0, 10 ** 9):
            keeper.set_count("a", count)
            self.assertEqual(keeper.wants_now(), [("a", count), ("b", 2)])

    def test_sizes(self):
        tongue = sample_tongue()
        for ordered, many in ((False, 5), (True, 7)):
            keeper = Keeper(tongue, wants_for(many), ordered, (1, 2))
            for name, count in (("a", 90), ("c", 0), ("e", 10 ** 9)):
                keeper.set_count(name, count)
                self.look_at(tongue, keeper, ordered, Fraction(1, 2))
        for ordered, many in ((False, 6), (False, 20), (True, 8), (True, 20)):
            for there in (tongue, wordless_tongues()[1]):
                with self.assertRaises(TooMany) as caught:
                    Keeper(there, wants_for(many), ordered)
                self.assertIsInstance(caught.exception, DearError)

    def test_no_book(self):
        for ordered in BOTH:
            for tongue in wordless_tongues():
                with self.assertRaises(NoBook) as caught:
                    Keeper(tongue, wants_for(1), ordered)
                self.assertIsInstance(caught.exception, DearError)
            with self.assertRaises(NoBook):
                Keeper(plain_tongue("ab", 1), wants_for(3), ordered)
            Keeper(plain_tongue("ab", 1), wants_for(2), ordered)

    def test_which_refusal_comes_first(self):
        for thing, part in spoilt_tongues():
            for wants in (None, wants_for(20), wants_for(1)):
                with self.assertRaises(NoTongue) as caught:
                    Keeper(thing, wants)
                self.assertEqual(caught.exception.part, part)
        for thing, number in spoilt_wants():
            with self.assertRaises(NoWants) as caught:
                Keeper(wordless_tongues()[0], thing, True)
            self.assertEqual(caught.exception.number, number)

    def test_great_tongues(self):
        tongue = great_tongue()
        for ordered, many in ((False, 5), (True, 7)):
            keeper = Keeper(tongue, wants_for(many), ordered, (1, 3))
            for step in range(8):
                keeper.set_count("abcde"[step % 5], step * step * step)
                self.look_at(tongue, keeper, ordered, Fraction(1, 3))


class RefusedSettingTest(TestCase):

    def test_names_that_none_has(self):
        keeper = Keeper(sample_tongue(), wants_for(3), False, (1, 2))
        keeper.set_count("a", 9)
        before = state(keeper)
        for name in [thing for thing in ANYTHING if thing != "a"] + ["d", "A", "aa", ["a"], ("a",), {"a": 1}, 0, 1]:
            for count in (1, 0, -1, None, "x", [], 10 ** 9 + 1):
                with self.assertRaises(Unknown) as caught:
                    keeper.set_count(name, count)
                self.assertIsInstance(caught.exception, DearError)
        self.assertEqual(state(keeper), before)

    def test_what_is_no_count(self):
        keeper = Keeper(sample_tongue(), wants_for(3), False, (1, 2))
        before = state(keeper)
        for count in NO_COUNTS:
            with self.assertRaises(NoCount) as caught:
                keeper.set_count("b", count)
            self.assertIsInstance(caught.exception, DearError)
        self.assertEqual(state(keeper), before)
        # What is refused is no setting.
        with self.assertRaises(NoUndo):
            keeper.undo()


class OwnTest(TestCase):

    def test_what_is_handed_in_stays_and_may_be_changed(self):
        tongue, wants = sample_tongue(), wants_for(3)
        keeper, other = Keeper(tongue, wants), Keeper(sample_tongue(), wants_for(3))
        keeper.set_count("a", 50)
        other.set_count("a", 50)
        keeper.undo()
        self.assertEqual((tongue, wants), (sample_tongue(), wants_for(3)))
        other.undo()
        tongue[0][0] = ("d", (100, 1), None)
        tongue[0].pop()
        tongue[1].append("d")
        tongue[2].clear()
        wants.reverse()
        wants[0] = ("q", 7)
        self.assertEqual(state(keeper), state(other))
        self.assertEqual(keeper.set_count("b", 500), other.set_count("b", 500))
        self.assertEqual(state(keeper), state(other))

    def test_told_lists_are_the_askers_own(self):
        keeper = Keeper(sample_tongue(), wants_for(4))
        told = [keeper.set_count("d", 0), keeper.set_count("a", 400), keeper.wants_now(), keeper.book_now()]
        before, kept = deepcopy(told), state(keeper)
        for row in told:
            row.append("spoilt")
            row.reverse()
        self.assertEqual(state(keeper), kept)
        later = [keeper.wants_now(), keeper.book_now()]
        self.assertEqual(later, before[2:])
        keeper.set_count("b", 7000)
        keeper.undo()
        keeper.undo()
        self.assertEqual(later, before[2:])
        self.assertEqual(keeper.wants_now(), [("a", 1), ("b", 2), ("c", 3), ("d", 0)])

    def test_two_keepers_stand_apart(self):
        tongue, wants = sample_tongue(), wants_for(3)
        one, other = Keeper(tongue, wants), Keeper(tongue, wants)
        before = state(other)
        one.set_count("a", 900)
        self.assertEqual(state(other), before)
        with self.assertRaises(NoUndo):
            other.undo()
        other.set_count("c", 0)
        one.undo()
        self.assertEqual(state(one), before)
        self.assertEqual(other.wants_now(), [("a", 1), ("b", 2), ("c", 0)])

    def test_asking_changes_nothing(self):
        one, other = Keeper(sample_tongue(), wants_for(4)), Keeper(sample_tongue(), wants_for(4))
        for name, count in (("a", 40), ("b", 0), ("a", 2), ("d", 10 ** 9)):
            for step in range(3):
                state(one)
            self.assertEqual(one.set_count(name, count), other.set_count(name, count))
        self.assertEqual(state(one), state(other))
