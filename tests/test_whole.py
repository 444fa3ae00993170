"""Points 1 and 2: what is promised over the whole program, held against all books of small tongues."""

from fractions import Fraction
from pathlib import Path
from random import Random
from unittest import TestCase

import dearsigns
from dearsigns.allbooks import all_books, costs_of_all
from dearsigns.binding import bound_book
from dearsigns.books import cost_of, what_is_wrong
from dearsigns.casereader import read_case
from dearsigns.casewriter import write_case
from dearsigns.cheapest import cheapest_book
from dearsigns.columns import columns_of
from dearsigns.counting import books_many, sets_by_size
from dearsigns.desk import Desk
from dearsigns.floors import claim_of_floors, lets_floors
from dearsigns.keeper import Keeper
from dearsigns.mending import mend
from dearsigns.reading import Reader, read_row
from dearsigns.reasons import lets_tree
from dearsigns.seeking import seek_book
from dearsigns.shares import claim_of_shares, lets_shares
from dearsigns.sharing import shares_for
from dearsigns.trees import book_of, tree_of
from dearsigns.turning import dearer, more_often, put_wants, turned_book, turned_tongue
from dearsigns.words import price_of, words_of
from dearsigns.writing import write_row
from tests.helpers import as_fraction, as_tuple, small_cases, some_price

BOTH = (False, True)

# The files that the interface lists.
FILES = """errors numbers tongues words wants books trees columns writing reading seats floors cheapest shares sharing
    parts reasons seeking binding mending keeper counting allbooks turning casewriter casereader desk""".split()


def few_books(many=50):
    """Tuples (tongue, wants) with at most 3000 books."""
    return [(tongue, wants) for tongue, wants in small_cases(2 * many)
            if books_many(tongue, len(wants), False) <= 3000][:many]


class WholeTest(TestCase):

    def test_files(self):
        folder = Path(dearsigns.__file__).parent
        for name in FILES:
            self.assertTrue((folder / f"{name}.py").is_file(), name)

    def test_cheapest_books_are_the_cheapest_of_all(self):
        for tongue, wants in few_books():
            for ordered in BOTH:
                costs = costs_of_all(tongue, wants, ordered)
                books = all_books(tongue, len(wants), ordered)
                book, cost, floors = cheapest_book(tongue, wants, ordered)
                self.assertIs(lets_floors(tongue, wants, floors, ordered), True)
                self.assertEqual(claim_of_floors(wants, floors), cost)
                if not books:
                    self.assertEqual((book, cost, costs), (None, None, []))
                    continue
                self.assertIn(book, books)
                self.assertEqual(cost, costs[0][0])
                self.assertEqual(cost_of(tongue, wants, book), cost)
                self.assertEqual(sum(many for one, many in costs), books_many(tongue, len(wants), ordered))
                for other in books[::17]:
                    self.assertIsNone(what_is_wrong(tongue, wants, other, ordered))
                    self.assertIn(cost_of(tongue, wants, other), [one for one, many in costs])

    def test_bounds_and_reasons_claim_no_more_than_all_books_cost(self):
        for tongue, wants in few_books():
            costs = costs_of_all(tongue, wants, False)
            shares = shares_for(tongue, wants)
            self.assertIs(lets_shares(tongue, wants, shares), True)
            if costs:
                least = as_fraction(costs[0][0])
                self.assertLessEqual(as_fraction(claim_of_shares(shares)), least)
                told = seek_book(tongue, wants, as_tuple(least), 400)
                self.assertIn(told[0], ("none", "open"))
                if told[0] == "none":
                    self.assertIs(lets_tree(tongue, wants, as_tuple(least), told[1]), True)
                    more = as_tuple(least + Fraction(1, 10 ** 12))
                    self.assertIs(lets_tree(tongue, wants, more, told[1]), False)
                told = seek_book(tongue, wants, as_tuple(least + 1), 400)
                if told[0] == "book":
                    self.assertIn(told[1], all_books(tongue, len(wants), False))
            else:
                self.assertIn(seek_book(tongue, wants, (10 ** 9, 1), 400)[0], ("none", "open"))

    def test_mends_and_bound_books_against_all_books(self):
        chance = Random(2)
        for tongue, wants in few_books():
            for ordered in BOTH:
                books = all_books(tongue, len(wants), ordered)
                if not books:
                    continue
                elder = chance.choice(books)
                slack = some_price(chance)
                book, cost, changed = mend(tongue, wants, elder, slack, ordered)
                self.assertIn(book, books)
                most = as_fraction(costs_of_all(tongue, wants, ordered)[0][0]) + as_fraction(slack)
                self.assertLessEqual(as_fraction(cost), most)
                for other in books:
                    if sum(one != word for one, word in zip(elder, other)) < len(changed):
                        self.assertGreater(as_fraction(cost_of(tongue, wants, other)), most)
                bound = {number: word for number, word in enumerate(elder) if number not in changed}
                self.assertEqual(bound_book(tongue, wants, bound, ordered)[1], cost)

    def test_what_is_written_is_read_back(self):
        chance = Random(3)
        for tongue, wants in few_books():
            book = cheapest_book(tongue, wants, False)[0]
            if book is None:
                continue
            row = [chance.randrange(len(book)) for step in range(chance.randint(0, 40))]
            text = write_row(book, row)
            self.assertEqual(read_row(book, text), row)
            reader = Reader(book)
            self.assertEqual([number for number in map(reader.put_sign, text) if number is not None], row)
            self.assertEqual(book_of(tongue, len(book), tree_of(tongue, book)), book)
            self.assertEqual(sum(ends for price, begins, ends in columns_of(tongue, book)), len(book))
            self.assertEqual(read_case(write_case((tongue, wants, book))), (tongue, wants, book))

    def test_counts_of_books_are_those_of_going_through_all(self):
        for tongue, wants in few_books():
            many = len(wants)
            self.assertEqual(len(all_books(tongue, many, False)), books_many(tongue, many, False))
            self.assertEqual(len(all_books(tongue, many, True)), sets_by_size(tongue, many)[many])
            self.assertEqual(all_books(tongue, 1, True), [[word] for word in sorted(words_of(tongue))])

    def test_called_otherwise_only_names_and_sums_change(self):
        chance = Random(4)
        for tongue, wants in few_books(30):
            wants = [(name, min(count, 10 ** 6)) for name, count in wants]
            letters = chance.sample("abcdefghijklmnopqrstuvwxyz", len(tongue[0]))
            turned = dearer(turned_tongue(tongue, letters), (2, 3))
            more = more_often(wants, 9)
            cost = cheapest_book(tongue, wants, False)[1]
            expected = None if cost is None else as_tuple(6 * as_fraction(cost))
            order = list(range(len(wants)))
            chance.shuffle(order)
            self.assertEqual(cheapest_book(turned, put_wants(more, order), False)[1], expected)
            books = [turned_book(tongue, letters, book) for book in all_books(tongue, len(wants), False)]
            self.assertEqual(all_books(turned, len(wants), False), sorted(books))

    def test_a_keeper_and_a_desk_tell_the_same(self):
        for tongue, wants in few_books(30):
            if cheapest_book(tongue, wants, False)[0] is None:
                continue
            keeper, desk = Keeper(tongue, wants), Desk()
            text = write_case((tongue, wants, keeper.book_now())).replace("\n", "; ")
            desk.say(f"case x {text}")
            for count in (0, 30, 30, 10 ** 9):
                for name, old in wants:
                    told = keeper.set_count(name, count)
                    self.assertEqual(desk.say(f"count x {name} {count}"), " ".join(told) or "-")
            shown = read_case(desk.say("shown x").replace("; ", "\n"))
            self.assertEqual(shown, (tongue, keeper.wants_now(), keeper.book_now()))

    def test_a_book_costs_what_its_words_do(self):
        for tongue, wants in few_books(20):
            for book in all_books(tongue, len(wants), False)[::7]:
                prices = [as_fraction(price_of(tongue, word)) for word in book]
                cost = sum((count * price for (name, count), price in zip(wants, prices)), Fraction(0))
                self.assertEqual(cost_of(tongue, wants, book), as_tuple(cost))
