"""Point 36: the desk."""

from math import factorial
from random import Random
from unittest import TestCase

from dearsigns.books import cost_of, what_is_wrong
from dearsigns.casereader import read_case, read_fraction
from dearsigns.casewriter import show_fraction, write_case
from dearsigns.cheapest import cheapest_book
from dearsigns.counting import books_many
from dearsigns.desk import Desk
from dearsigns.errors import BadSign, DearError, NoBook, NoCount, NoRow, NoText, TooMany, Unknown
from dearsigns.mending import mend
from tests.helpers import ANYTHING, as_tuple, great_tongue, plain_tongue, sample_tongue, slow_least, slow_price, \
    slow_words, small_cases, some_book, wants_for, wordless_tongues

TONGUE = ([("a", (1, 1), (2, 1)), ("b", (3, 2), None), ("c", (1, 2), (5, 1))], ["c"], ["aa"], 3)
TEXT = "sign a 1 2; sign b 3/2 -; sign c 1/2 5; first c; pair aa; longest 3; thing bread 4; thing salt 1"
RIGHT = TEXT + "; word a; word bc"
# All rows that are asked of a case, with fitting words behind the name.
ROWS = ["shown NAME", "drop NAME", "cheapest NAME", "ordered NAME", "cost NAME", "wrong NAME", "write NAME bread",
        "write NAME salt bread salt", "read NAME abc", "count NAME salt 7", "books NAME", "bound NAME"]
LETTERS = "abcdefghijklmnopqrstuvwxyz"


def case_text(case):
    return write_case(case).replace("\n", "; ")


def forty_names():
    return [one + other for one in "abcd" for other in "klmnopqrst"]


class DeskCase(TestCase):

    def desk(self, **cases):
        desk = Desk()
        for name, text in cases.items():
            self.assertEqual(desk.say(f"case {name} {text}"), "ok")
        return desk

    def state(self, desk):
        """All that a desk keeps, as it tells it."""
        names = desk.say("names")
        return {} if names == "-" else {name: desk.say(f"shown {name}") for name in names.split(" ")}

    def look_at_refused(self, desk, row, refusal):
        """The refusal, once it was found to be this one and to have changed nothing."""
        before = self.state(desk)
        with self.assertRaises(refusal, msg=repr(row)[:200]) as caught:
            desk.say(row)
        self.assertIsInstance(caught.exception, DearError)
        self.assertIs(type(caught.exception), refusal)
        self.assertEqual(self.state(desk), before)
        return caught.exception


class AnswersTest(DeskCase):

    def test_rows_one_behind_the_other(self):
        desk = Desk()
        for row, told in (
                ("names", "-"), (f"case one {TEXT}", "ok"), ("names", "one"), ("shown one", TEXT),
                (f"case two {RIGHT}", "ok"), ("names", "one two"), ("shown two", RIGHT), ("cost two", "29/2"),
                ("wrong two", "-"), ("write two salt bread salt", "bcabc"), ("read two bcabc", "salt bread salt"),
                ("books two", "136"), ("bound two", "10"), ("cheapest one", "23/2"), ("cost one", "23/2"),
                ("shown one", TEXT + "; word a; word ba"), ("wrong one", "-"), ("read one baa", "salt bread"),
                ("count two salt 9", "bread salt"), ("cost two", "32"), ("bound two", "26"),
                ("shown two", TEXT.replace("salt 1", "salt 9") + "; word ba; word a"), ("count two salt 9", "-"),
                ("ordered two", "79/2"), ("shown two", TEXT.replace("salt 1", "salt 9") + "; word a; word ba"),
                ("cost two", "79/2"), ("count two bread 4", "bread salt"), ("cost two", "32"), ("names", "one two"),
                ("drop one", "ok"), ("names", "two"), ("drop two", "ok"), ("names", "-")):
            self.assertEqual(desk.say(row), told, row)

    def test_answers_of_small_tongues(self):
        desk = Desk()
        for number, (tongue, wants) in enumerate(small_cases(40)):
            name = LETTERS[number % 26] + LETTERS[number // 26]
            self.assertEqual(desk.say(f"case {name} {case_text((tongue, wants, None))}"), "ok")
            self.assertEqual(desk.say(f"books {name}"), str(books_many(tongue, len(wants), False)))
            prices = [slow_price(tongue, word) for word in slow_words(tongue)]
            bound = min(prices, default=0) * sum(count for thing, count in wants)
            self.assertEqual(desk.say(f"bound {name}"), str(bound))
            for row, ordered in (("cheapest", False), ("ordered", True)):
                least = slow_least(tongue, wants, ordered)
                before = desk.say(f"shown {name}")
                self.assertEqual(desk.say(f"{row} {name}"), "none" if least is None else str(least))
                if least is None:
                    self.assertEqual(desk.say(f"shown {name}"), before)
                    continue
                self.assertEqual(desk.say(f"cost {name}"), str(least))
                book = read_case(desk.say(f"shown {name}").replace("; ", "\n"))[2]
                self.assertIsNone(what_is_wrong(tongue, wants, book, ordered))
                self.assertEqual(read_fraction(desk.say(f"cost {name}")), cost_of(tongue, wants, book))
        self.assertEqual(len(desk.say("names").split(" ")), 40)

    def test_counts_are_mended(self):
        chance = Random(36)
        for tongue, wants in small_cases(40):
            book = some_book(chance, tongue, 4)[:len(wants)]
            if len(book) < len(wants):
                continue
            desk = self.desk(x=case_text((tongue, wants, book)))
            for step in range(5):
                thing, count = chance.choice(wants)[0], chance.choice([0, 1, 3, 90, 10 ** 9])
                wants = [(name, count if name == thing else old) for name, old in wants]
                told = desk.say(f"count x {thing} {count}")
                now = read_case(desk.say("shown x").replace("; ", "\n"))
                self.assertEqual(now[:2], (tongue, wants))
                self.assertIsNone(what_is_wrong(tongue, wants, now[2]))
                changed = [name for (name, old), one, other in zip(wants, book, now[2]) if one != other]
                self.assertEqual(told, " ".join(changed) or "-")
                mended = mend(tongue, wants, book, (0, 1), False)
                self.assertEqual((desk.say("cost x"), len(changed)), (show_fraction(mended[1]), len(mended[2])))
                self.assertEqual(mended[1], cheapest_book(tongue, wants, False)[1])
                book = now[2]

    def test_a_count_that_was_so_mends_too(self):
        desk = self.desk(x=TEXT + "; word bcc; word bba")
        self.assertEqual(desk.say("count x bread 4"), "bread salt")
        self.assertEqual(desk.say("cost x"), "23/2")
        self.assertEqual(desk.say("count x bread 4"), "-")

    def test_the_least_and_the_greatest_count(self):
        desk = self.desk(x=RIGHT)
        for count in (0, 10 ** 9):
            desk.say(f"count x salt {count}")
            self.assertIn(f"thing salt {count}; ", desk.say("shown x"))

    def test_what_is_wrong_with_a_book(self):
        for words, told in (("a bc", "-"), ("bc a", "-"), ("b a", "word 0"), ("a b", "word 1"), ("a a", "begins 0 1"),
                            ("ac a", "begins 1 0"), ("q q", "word 0"), ("a zzzzzzzz", "word 1"), ("c ba", "word 0"),
                            ("a aaa", "word 1")):
            desk = self.desk(x=TEXT + "".join(f"; word {word}" for word in words.split(" ")))
            self.assertEqual(desk.say("wrong x"), told)

    def test_a_book_out_of_order_is_right(self):
        desk = self.desk(x=TEXT + "; word ba; word a")
        self.assertEqual(desk.say("wrong x"), "-")
        self.assertEqual(desk.say("cost x"), "16")

    def test_write_and_read_want_a_plain_book_only(self):
        # No words of the tongue, but none begins another one.
        desk = self.desk(x=TEXT + "; word qq; word bz")
        self.assertEqual(desk.say("wrong x"), "word 0")
        self.assertEqual(desk.say("write x bread salt bread"), "qqbzqq")
        self.assertEqual(desk.say("read x bzqq"), "salt bread")
        self.look_at_refused(desk, "cost x", NoBook)
        self.look_at_refused(desk, "count x salt 1", NoBook)
        self.assertEqual(desk.say("books x"), "136")
        self.assertEqual(desk.say("cheapest x"), "23/2")
        self.assertEqual(desk.say("wrong x"), "-")

    def test_none_leaves_the_case_as_it_was(self):
        text = "sign a 1 1; sign b 1 1; longest 1; thing x 1; thing y 1; thing z 1"
        for words in ("", "; word a; word b; word a"):
            desk = self.desk(c=text + words)
            for row in ("cheapest c", "ordered c"):
                self.assertEqual(desk.say(row), "none")
                self.assertEqual(desk.say("shown c"), text + words)
            self.assertEqual(desk.say("books c"), "0")
            self.assertEqual(desk.say("bound c"), "3")

    def test_tongues_without_words(self):
        for tongue in wordless_tongues():
            desk = self.desk(x=case_text((tongue, wants_for(3), None)))
            self.assertEqual(desk.say("bound x"), "0")
            self.assertEqual(desk.say("books x"), "0")
            self.assertEqual(desk.say("cheapest x"), "none")

    def test_great_tongues(self):
        tongue = great_tongue()
        for many in (1, 6, 20):
            desk = self.desk(x=case_text((tongue, wants_for(many), None)))
            self.assertEqual(desk.say("books x"), str(books_many(tongue, many, False)))
            count = sum(count for name, count in wants_for(many))
            self.assertEqual(read_fraction(desk.say("bound x")), as_tuple(count * slow_price(tongue, "f")))
        desk = self.desk(x=case_text((plain_tongue("abcdef", 8), wants_for(1), None)))
        self.assertEqual(desk.say("books x"), str(sum(6 ** length for length in range(1, 9))))
        desk = self.desk(x=case_text((plain_tongue("ab", 4), wants_for(16), None)))
        self.assertEqual(desk.say("books x"), str(factorial(16)))

    def test_bound_where_longer_words_cost_less(self):
        signs = "sign a 1 100; sign b 50 2; sign c 1/3 200"
        desk = self.desk(x=f"{signs}; first b; pair ab; longest 8; thing x 3; thing y 4")
        # The cheapest word is cb.
        self.assertEqual(desk.say("bound x"), "49/3")

    def test_names_are_sorted(self):
        desk = Desk()
        for name in ("b", "abc", "ab", "zz", "a", "case", "names", "drop"):
            desk.say(f"case {name} {TEXT}")
        self.assertEqual(desk.say("names"), "a ab abc b case drop names zz")

    def test_names_of_rows(self):
        desk = Desk()
        for name in ("case", "shown", "drop", "names", "cheapest", "ordered", "cost", "wrong", "write", "read", "count",
                     "books", "bound"):
            self.assertEqual(desk.say(f"case {name} {RIGHT}"), "ok")
            self.assertEqual(desk.say(f"shown {name}"), RIGHT)
            self.assertEqual(desk.say(f"write {name} salt"), "bc")
            self.assertEqual(desk.say(f"count {name} salt 2"), "salt")
            self.assertEqual(desk.say(f"drop {name}"), "ok")
        desk = self.desk(case=TEXT.replace("salt", "case").replace("bread", "write") + "; word a; word ba")
        self.assertEqual(desk.say("write case write case"), "aba")

    def test_a_case_in_the_stead_of_another_one(self):
        desk = self.desk(x=RIGHT)
        self.assertEqual(desk.say(f"case x {TEXT}"), "ok")
        self.assertEqual(desk.say("shown x"), TEXT)
        self.look_at_refused(desk, "cost x", NoBook)

    def test_forty_names(self):
        desk = Desk()
        for name in forty_names():
            self.assertEqual(desk.say(f"case {name} {TEXT}"), "ok")
        self.look_at_refused(desk, f"case more {TEXT}", TooMany)
        self.assertEqual(desk.say(f"case ak {RIGHT}"), "ok")
        self.assertEqual(desk.say("shown ak"), RIGHT)
        self.assertEqual(desk.say("drop bk"), "ok")
        self.assertEqual(desk.say(f"case more {TEXT}"), "ok")
        self.look_at_refused(desk, f"case bk {TEXT}", TooMany)
        self.assertEqual(len(desk.say("names").split(" ")), 40)

    def test_two_desks_stand_apart(self):
        one, other = self.desk(x=RIGHT), self.desk(x=RIGHT)
        one.say("count x salt 90")
        self.assertEqual(other.say("shown x"), RIGHT)
        one.say("drop x")
        self.assertEqual(other.say("names"), "x")
        self.assertEqual(one.say("names"), "-")

    def test_two_cases_stand_apart(self):
        desk = self.desk(x=RIGHT, y=RIGHT)
        desk.say("count x salt 90")
        desk.say("cheapest x")
        self.assertEqual(desk.say("shown y"), RIGHT)

    def test_asking_changes_nothing(self):
        desk = self.desk(x=RIGHT, y=TEXT)
        before = self.state(desk)
        for row in ("names", "shown x", "cost x", "wrong x", "write x bread salt", "read x a", "books y", "bound y"):
            told = desk.say(row)
            self.assertIs(type(told), str)
            self.assertEqual(self.state(desk), before)
            self.assertEqual(desk.say(row), told)


class RefusalsTest(DeskCase):

    def test_what_is_no_text(self):
        desk = self.desk(x=RIGHT)
        for thing in [thing for thing in ANYTHING if type(thing) is not str] + [["names"], ("names",), b"names"]:
            self.look_at_refused(desk, thing, NoRow)

    def test_rows_that_are_none(self):
        desk = self.desk(x=RIGHT)
        rows = [thing for thing in ANYTHING if type(thing) is str]
        rows += ["case", "case ", "case x", "case  ", f"case  x {TEXT}", f" case x {TEXT}", f"case X {TEXT}",
                 f"case x1 {TEXT}", f"case abcdefghi {TEXT}", f"Case x {TEXT}", f"case\tx {TEXT}", f"case x\t{TEXT}",
                 f"case x; {TEXT}", f"case x {TEXT}\n", f"case x\n{TEXT}", "case x " + TEXT.replace("; ", "\n"),
                 f"case x {TEXT}; \n", "names ", " names", "names x", "Names", "names\t", "names\n", "name", "x",
                 "shown", "cost", "drop", "unknown x", "help x", "say x", "put_case x"]
        for row in rows:
            self.look_at_refused(desk, row, NoRow)

    def test_a_word_too_few_or_too_many(self):
        desk = self.desk(x=RIGHT)
        for row in ROWS:
            row = row.replace("NAME", "x")
            words = row.split(" ")
            wrong = [words[0], words[0] + " ", " " + row, row + " ", row.replace(" ", "  ", 1),
                     row.replace(" ", "\t", 1), row + "\n", row.replace(" ", "\n", 1), row.upper(), " ".join([words[0], *words[2:]]) + " ",
                     row.replace("x", ""), row.replace("x", "X"), row.replace(" x", " x1"),
                     row.replace(" x", " abcdefghi"), "  ".join(words), row + "\n" + row]
            if words[0] != "write":
                wrong += [row + " more", row + " salt", row + " 1"]
            if len(words) > 2:
                wrong += [" ".join(words[:2]), " ".join(words[:2]) + " "]
            if words[0] == "count":
                wrong += ["count x salt", "count x 7", "count x salt "]
            if words[0] in ("shown", "drop", "cost"):
                wrong += [row + "\t"]
            for each in wrong:
                if each != row:
                    self.look_at_refused(desk, each, NoRow)

    def test_numbers_that_are_not_written_so(self):
        desk = self.desk(x=RIGHT)
        for number in ("", "-1", "-0", "+1", "00", "01", "007", "1/2", "1/1", "1.0", "x", "1x", "0x1", "1e3", "1\t",
                       "11111111111", "10000000000", "00000000001", "1" * 60, "1" * 2000, "one", "-", "1_0"):
            self.look_at_refused(desk, f"count x salt {number}", NoRow)
            # It is no row, whatever else is wrong.
            self.look_at_refused(desk, f"count nobody nothing {number}", NoRow)

    def test_names_by_which_nothing_stands(self):
        desk = self.desk(x=RIGHT)
        for row in ROWS:
            for name in ("y", "xx", "names", "abcdefgh"):
                self.look_at_refused(desk, row.replace("NAME", name), Unknown)
        self.look_at_refused(desk, "write y nothing", Unknown)
        self.look_at_refused(desk, "count y nothing 9999999999", Unknown)
        desk.say("drop x")
        for row in ROWS:
            self.look_at_refused(desk, row.replace("NAME", "x"), Unknown)

    def test_things_that_the_case_has_not(self):
        for text in (TEXT, RIGHT, TEXT + "; word a; word a", TEXT + "; word q; word b"):
            desk = self.desk(x=text)
            for thing in ("pepper", "x", "Bread", "BREAD", "bread;", "1", "abcdefghi", "-", "b\tread", "~"):
                for row in (f"write x {thing}", f"write x bread {thing}", f"write x {thing} salt", f"count x {thing} 1",
                            f"count x {thing} 9999999999"):
                    self.look_at_refused(desk, row, Unknown)

    def test_no_book(self):
        desk = self.desk(x=TEXT)
        for row in ("cost x", "wrong x", "write x bread", "read x a", "read x zzz", "count x bread 1",
                    "count x bread 9999999999"):
            self.look_at_refused(desk, row, NoBook)
        for words in ("; word a; word a", "; word a; word ac"):
            desk = self.desk(x=TEXT + words)
            for row in ("cost x", "write x bread", "read x a", "read x zzz", "count x bread 1",
                        "count x bread 9999999999"):
                self.look_at_refused(desk, row, NoBook)
            self.assertEqual(desk.say("wrong x"), "begins 0 1")

    def test_no_book_comes_ahead_of_sizes_and_counts(self):
        text = case_text((sample_tongue(), wants_for(6), None))
        desk = self.desk(x=text, y=text + "; word a" * 6)
        for name in "xy":
            self.look_at_refused(desk, f"count {name} a 1", NoBook)
            self.look_at_refused(desk, f"count {name} a 9999999999", NoBook)
            self.look_at_refused(desk, f"count {name} q 9999999999", Unknown)

    def test_sizes_then_the_count(self):
        tongue = plain_tongue("abcde", 2)
        words = [one + other for one in "abcde" for other in "abcde"]
        for many, refusal in ((1, NoCount), (5, NoCount), (6, TooMany), (12, TooMany), (20, TooMany)):
            book = words[:many]
            desk = self.desk(x=case_text((tongue, wants_for(many), book)))
            self.assertEqual(desk.say("wrong x"), "-")
            self.look_at_refused(desk, "count x a 1000000001", refusal)
            self.look_at_refused(desk, "count x a 9999999999", refusal)
            if refusal is TooMany:
                self.look_at_refused(desk, "count x a 1", TooMany)
            else:
                desk.say("count x a 1000000000")

    def test_sizes_of_cheapest_books(self):
        for many, row in ((6, "cheapest x"), (12, "ordered x")):
            desk = self.desk(x=case_text((sample_tongue(), wants_for(many), None)))
            self.assertNotEqual(desk.say(row), "none")
            for more in (many + 1, 20):
                desk = self.desk(x=case_text((sample_tongue(), wants_for(more), None)))
                self.look_at_refused(desk, row, TooMany)

    def test_signs_that_cannot_be_read(self):
        desk = self.desk(x=RIGHT)
        for signs, place in (("b", 1), ("bc" * 20 + "b", 41), ("c", 0), ("aac", 2), ("bb", 1), ("a\tb", 1), ("A", 0),
                             (";", 0), ("abc1", 3), ("~", 0)):
            caught = self.look_at_refused(desk, f"read x {signs}", BadSign)
            self.assertEqual(caught.place, place)

    def test_texts_that_write_no_case(self):
        desk = self.desk(x=RIGHT)
        many = RIGHT.count("; ") + 1
        for text, row in (("", 0), (" ", 0), (TEXT + ";", 7), (TEXT + "; ", 8), (" " + TEXT, 0), (TEXT + " ", 7),
                          (TEXT.replace("; ", ";"), 0), (TEXT.replace("; ", " ; "), 0), (RIGHT + "; word a", many),
                          (TEXT.replace("; ", ";  ", 1), 1), ("names", 0), (TEXT + "; word a", 9), ("\t", 0),
                          (TEXT.replace("longest 3; ", ""), 5), (";", 0), ("; ", 0), ("; " + TEXT, 0)):
            for name in ("x", "y"):
                caught = self.look_at_refused(desk, f"case {name} {text}", NoText)
                self.assertEqual(caught.row, row, text)

    def test_a_text_that_writes_no_case_comes_ahead_of_too_many(self):
        desk = Desk()
        for name in forty_names():
            desk.say(f"case {name} {TEXT}")
        self.look_at_refused(desk, "case more no", NoText)
        self.look_at_refused(desk, "case MORE no", NoRow)
        self.look_at_refused(desk, "case more", NoRow)
