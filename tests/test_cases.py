"""Points 34 and 35: cases and fractions written and read."""

from fractions import Fraction
from random import Random
from unittest import TestCase

from dearsigns.casereader import read_case, read_fraction
from dearsigns.casewriter import show_fraction, write_case
from dearsigns.errors import DearError, NoText, NoTongue, NoWants
from dearsigns.tongues import look_at_tongue
from dearsigns.wants import look_at_wants
from tests.helpers import ANYTHING, as_tuple, plain_tongue, sample_tongue, sign, some_book, some_tongues, \
    spoilt_tongues, spoilt_wants, wants_for

SIGNS = ["sign a 1 2", "sign b 3/2 -", "sign c 1/2 5"]
ROWS = [*SIGNS, "first c", "first b", "pair aa", "pair cb", "longest 3", "thing bread 4", "thing salt 0"]
WORDS = ["word a", "word bc"]
CASE = (([("a", (1, 1), (2, 1)), ("b", (3, 2), None), ("c", (1, 2), (5, 1))], ["c", "b"], ["aa", "cb"], 3),
        [("bread", 4), ("salt", 0)], None)

# What writes no fraction, in any of the places where one may stand.
NO_FRACTIONS = ["", "-", "--1", "+1", "01", "00", "-0", "0/1", "0/2", "1/1", "2/4", "6/3", "1/0", "1/-2", "-1/-2", "1/",
                "/2", "1/02", "01/2", "1//2", "1/2/3", "1.5", "1e3", "0x1", "1_0", "1,5", "a", "1a", "a1", "1-", "1/2-",
                "1\t", "\t1", ";", "1;", "None", "10/5", "-2/4", "-01", "-/2", "3/9", "12/18"]
NO_WHOLES = ["", "-", "-1", "-0", "+1", "00", "01", "007", "1/2", "1/1", "1.0", "1_0", "x", "1x", "0x1", "1e3", "\t1",
             "1\t", "None", "True"]


def rows_in(text):
    return text.split("\n")


class ShowFractionTest(TestCase):

    def test_by_hand(self):
        for one, text in (((0, 1), "0"), ((1, 1), "1"), ((-1, 1), "-1"), ((1, 2), "1/2"), ((-1, 2), "-1/2"),
                          ((1000, 1), "1000"), ((-22, 7), "-22/7"),
                          ((10 ** 60 - 1, 10 ** 59), "9" * 60 + "/1" + "0" * 59),
                          ((7, 10), "7/10"), ((10, 7), "10/7")):
            self.assertEqual(show_fraction(one), text)
            self.assertEqual(read_fraction(text), one)

    def test_there_and_back(self):
        chance = Random(34)
        for step in range(500):
            top = chance.choice([-1, 1]) * chance.randint(0, 10 ** chance.randint(1, 60) - 1)
            one = as_tuple(Fraction(top, chance.randint(1, 10 ** chance.randint(1, 60) - 1)))
            self.assertEqual(read_fraction(show_fraction(one)), one)
            self.assertEqual(show_fraction(read_fraction(show_fraction(one))), show_fraction(one))


class ReadFractionTest(TestCase):

    def look_at_none(self, thing):
        with self.assertRaises(NoText, msg=repr(thing)[:200]) as caught:
            read_fraction(thing)
        self.assertEqual(caught.exception.row, 0)
        self.assertIsInstance(caught.exception, DearError)

    def test_what_writes_none(self):
        blanks = [" ", " 1", "1 ", "1 /2", "1/ 2", "- 1", "1 2", "\n", "1\n", "\n1", "1\n2"]
        for thing in [thing for thing in ANYTHING if thing != "1"] + NO_FRACTIONS + blanks + [[1, 2], ("1",), ["1"]]:
            self.look_at_none(thing)

    def test_sixty_figures_and_one_more(self):
        most, more = "9" * 60, "9" * 61
        self.assertEqual(read_fraction(most), (10 ** 60 - 1, 1))
        self.assertEqual(read_fraction("-" + most), (1 - 10 ** 60, 1))
        self.assertEqual(read_fraction("1/" + most), (1, 10 ** 60 - 1))
        self.assertEqual(read_fraction("-1" + "0" * 59 + "/" + most), (-10 ** 59, 10 ** 60 - 1))
        for text in (more, "-" + more, "1/" + more, "2/" + more, "1" + "0" * 60, more + "/2", "-1/" + more, "7" * 3000,
                     "1/" + "7" * 2998):
            self.look_at_none(text)


class WriteCaseTest(TestCase):

    def test_by_hand(self):
        self.assertEqual(rows_in(write_case(CASE)), ROWS)
        self.assertEqual(rows_in(write_case((*CASE[:2], ["a", "bc"]))), ROWS + WORDS)
        tongue = ([sign("z", (1, 999999999), (999999999, 2)), sign("y", (10, 1), (1, 1))], [], [], 8)
        self.assertEqual(write_case((tongue, [("x", 10 ** 9)], None)),
                         "sign z 1/999999999 999999999/2\nsign y 10 1\nlongest 8\nthing x 1000000000")

    def test_a_book_may_be_wrong(self):
        for book in (["a", "a"], ["q", "zzzzzzzz"], ["b", "ba"]):
            text = write_case((*CASE[:2], book))
            self.assertEqual(rows_in(text)[-2:], ["word " + word for word in book])
            self.assertEqual(read_case(text), (*CASE[:2], book))

    def test_no_tongue_then_no_wants(self):
        for thing, part in spoilt_tongues():
            for wants in (None, wants_for(2)):
                with self.assertRaises(NoTongue) as caught:
                    write_case((thing, wants, None))
                self.assertEqual(caught.exception.part, part)
        for thing, number in spoilt_wants():
            with self.assertRaises(NoWants) as caught:
                write_case((sample_tongue(), thing, None))
            self.assertEqual(caught.exception.number, number)


class ReadCaseTest(TestCase):

    def look_at_none(self, thing, row):
        with self.assertRaises(NoText, msg=repr(thing)[:300]) as caught:
            read_case(thing)
        self.assertEqual(caught.exception.row, row, repr(thing)[:300])
        self.assertIsInstance(caught.exception, DearError)

    def look_at_wrong_row(self, ahead, wrong, behind=()):
        """A row that can't stand behind those ahead of it is told, whatever comes behind it."""
        for later in ([], list(behind), ["", "x"], [wrong]):
            self.look_at_none("\n".join([*ahead, wrong, *later]), len(ahead))

    def test_there_and_back(self):
        chance = Random(35)
        for number, tongue in enumerate(some_tongues(80)):
            wants = [("abcdefghijklmnopqrstuvwxyz"[place] * chance.randint(1, 8), chance.choice([0, 1, 77, 10 ** 9]))
                     for place in range(chance.randint(1, 20))]
            book = some_book(chance, tongue, len(wants))
            for case in ((tongue, wants, None), (tongue, wants, (book * 20)[:len(wants)] if book else None)):
                text = write_case(case)
                told = read_case(text)
                self.assertEqual(told, case)
                self.assertEqual([type(part) for part in told[0]], [list, list, list, int])
                self.assertEqual(write_case(told), text)
                self.assertIsNone(look_at_tongue(told[0]))
                self.assertIsNone(look_at_wants(told[1]))

    def test_by_hand(self):
        self.assertEqual(read_case("\n".join(ROWS)), CASE)
        self.assertEqual(read_case("\n".join(ROWS + WORDS)), (*CASE[:2], ["a", "bc"]))
        self.assertEqual(read_case("sign a 1 -\nsign b 1 -\nlongest 1\nthing x 0"),
                         (([sign("a", (1, 1), None), sign("b", (1, 1), None)], [], [], 1), [("x", 0)], None))

    def test_no_text(self):
        for thing in [thing for thing in ANYTHING if type(thing) is not str] + [ROWS, tuple(ROWS), CASE]:
            self.look_at_none(thing, 0)

    def test_odd_texts(self):
        for thing in [thing for thing in ANYTHING if type(thing) is str] + ["\n", "\n\n", "sign", "longest 3", "case"]:
            self.look_at_none(thing, 0)

    def test_rows_that_lack(self):
        full = ROWS + WORDS
        for many in range(1, len(full)):
            if many == len(ROWS):
                continue
            if many == len(ROWS) - 1:
                # One thing alone is enough.
                self.assertEqual(read_case("\n".join(full[:many]))[1], [("bread", 4)])
                continue
            self.look_at_none("\n".join(full[:many]), many)
        self.look_at_none("\n".join(SIGNS[:1]), 1)
        self.look_at_none("\n".join(SIGNS[:2]), 2)
        self.look_at_none("\n".join([*SIGNS, "longest 2"]), 4)

    def test_an_empty_row(self):
        full = ROWS + WORDS
        for many in range(len(full) + 1):
            self.look_at_wrong_row(full[:many], "", full[many:])

    def test_rows_that_are_none(self):
        full = ROWS + WORDS
        for many in range(len(full) + 1):
            for wrong in (" ", "x", "sign", "first", "pair", "longest", "thing", "word", "signs a 1 1", "Sign f 1 1",
                          "FIRST a", "thing x", "thing x 1 1", "word", "word a b", "pair", "pair a b", "pair a",
                          "longest 2 2", "sign f 1", "sign f 1 1 1", "thing  x 1", "thing x  1", " thing x 1",
                          "thing x 1 ", "word ", "word  a", " word a", "word a ", "thing\tx 1", "word\ta", "thing x\t1",
                          "sign f 1\t1", "- -", "word a;", "thing x 1;", "first ", "first  a", "longest  3",
                          "longest 3 ", "word A", "word abcdefghi", "word a1", "thing X 1", "thing abcdefghi 1", "thing x1 1"):
                self.look_at_wrong_row(full[:many], wrong, full[many:])

    def test_rows_out_of_order(self):
        stages = [SIGNS, ["first a"], ["pair aa"], ["longest 3"], ["thing x 1", "thing y 2"], ["word a", "word b"]]
        extra = [["sign f 1 1"], ["first b"], ["pair bb"], ["longest 3", "longest 4"], ["thing z 1"]]
        for late in range(1, len(stages)):
            rows = [row for stage in stages[:late + 1] for row in stage]
            for early in range(late):
                for wrong in extra[early]:
                    self.look_at_wrong_row(rows, wrong)
        # A thing ahead of the longest row, a word ahead of things.
        for many in range(2, 7):
            self.look_at_wrong_row(ROWS[:many] if many > 2 else SIGNS, "thing bread 4", ROWS[many:])
            self.look_at_wrong_row(ROWS[:many] if many > 2 else SIGNS, "word a", ROWS[many:])
        self.look_at_wrong_row(ROWS[:8], "word a", ROWS[8:])
        self.look_at_wrong_row(ROWS + WORDS[:1], "thing more 1", WORDS[1:])

    def test_fewer_than_two_signs(self):
        for many in (0, 1):
            for wrong in ("first a", "pair aa", "longest 1", "thing x 1", "word a"):
                self.look_at_wrong_row(SIGNS[:many], wrong, SIGNS[many:])
        self.assertEqual(len(read_case("\n".join([*SIGNS[:2], "longest 1", "thing x 1"]))[0][0]), 2)

    def test_signs(self):
        six = [f"sign {letter} 1 1" for letter in "abcdef"]
        end = ["longest 1", "thing x 1"]
        self.assertEqual(len(read_case("\n".join(six + end))[0][0]), 6)
        self.look_at_wrong_row(six, "sign g 1 1", end)
        for wrong in ("sign a 1 1", "sign b 2 -", "sign A 1 1", "sign 1 1 1", "sign de 1 1", "sign ; 1 1",
                      "sign - 1 1"):
            self.look_at_wrong_row(SIGNS, wrong, end)
        for wrong in ("-", "0", "-1", "-1/2", *NO_FRACTIONS):
            self.look_at_wrong_row(SIGNS, f"sign d {wrong} 1", end)
            self.look_at_wrong_row([], f"sign d {wrong} 1", SIGNS)
            if wrong != "-":
                self.look_at_wrong_row(SIGNS, f"sign d 1 {wrong}", end)

    def test_nine_figures_and_ten(self):
        end = ["longest 1", "thing x 1"]
        nine, ten = "9" * 9, "1" + "0" * 9
        told = read_case("\n".join([*SIGNS, f"sign d {nine} 1/{nine}", f"sign e 1/{nine} {nine}/100000000", *end]))
        self.assertEqual(told[0][0][3:], [("d", (999999999, 1), (1, 999999999)),
                                          ("e", (1, 999999999), (999999999, 100000000))])
        for wrong in (ten, "1/" + ten, "3/" + ten, ten + "/3", "1" * 10, "1" * 60, "1/" + "1" * 60, "7" * 1000):
            self.look_at_wrong_row(SIGNS, f"sign d {wrong} 1", end)
            self.look_at_wrong_row(SIGNS, f"sign d 1 {wrong}", end)

    def test_firsts_and_pairs(self):
        end = ["longest 1", "thing x 1"]
        told = read_case("\n".join([*SIGNS, "first c", "first a", "first b", "pair bb", "pair ba", "pair aa", *end]))
        self.assertEqual(told[0][1:3], (["c", "a", "b"], ["bb", "ba", "aa"]))
        for wrong in ("first d", "first ab", "first A", "first -", "first a"):
            self.look_at_wrong_row([*SIGNS, "first a"], wrong, end)
        for wrong in ("pair ad", "pair da", "pair abc", "pair AB", "pair --", "pair ab"):
            self.look_at_wrong_row([*SIGNS, "first a", "pair ab"], wrong, end)
        self.look_at_wrong_row([*SIGNS, "pair ab"], "first a", end)

    def test_longest(self):
        for number in range(1, 9):
            self.assertEqual(read_case("\n".join([*SIGNS, f"longest {number}", "thing x 1"]))[0][3], number)
        for wrong in ("0", "9", "10", "11", "08", "1" * 10, "1" * 11, "1" * 60, *NO_WHOLES):
            self.look_at_wrong_row(SIGNS, f"longest {wrong}", ["thing x 1"])
        self.look_at_wrong_row([*SIGNS, "longest 3"], "longest 3", ["thing x 1"])

    def test_things(self):
        ahead = [*SIGNS, "longest 3"]
        twenty = [f"thing {name} {count}" for name, count in wants_for(20)]
        self.assertEqual(read_case("\n".join(ahead + twenty))[1], wants_for(20))
        self.look_at_wrong_row(ahead + twenty, "thing more 1")
        self.look_at_wrong_row(ahead + twenty[:7], "thing c 9", twenty[7:])
        self.assertEqual(read_case("\n".join([*ahead, "thing abcdefgh 1000000000", "thing x 0"]))[1],
                         [("abcdefgh", 10 ** 9), ("x", 0)])
        for wrong in ("1000000001", "9999999999", "10000000000", "00000000001", "1" * 60, "1" * 2000, *NO_WHOLES):
            self.look_at_wrong_row(ahead, f"thing x {wrong}", twenty)
            self.look_at_wrong_row(ahead + twenty[:7], f"thing x {wrong}", twenty[7:])

    def test_words(self):
        self.assertEqual(read_case("\n".join([*ROWS, "word zzzzzzzz", "word zzzzzzzz"]))[2], ["zzzzzzzz", "zzzzzzzz"])
        self.look_at_wrong_row(ROWS + WORDS, "word b")
        self.look_at_none("\n".join(ROWS + WORDS[:1]), len(ROWS) + 1)

    def test_each_row_left_out(self):
        full = ROWS + WORDS
        for many in range(len(full)):
            rows = full[:many] + full[many + 1:]
            row = {7: 7, 8: 10, 9: 10, 10: 11, 11: 11, 1: 3, 0: 4, 2: 2}.get(many)
            if row is not None:
                self.look_at_none("\n".join(rows), row)
            else:
                self.assertIsNotNone(read_case("\n".join(rows))[2])

    def test_line_feeds_at_the_ends(self):
        text = "\n".join(ROWS)
        self.look_at_none(text + "\n", len(ROWS))
        self.look_at_none("\n" + text, 0)
        self.look_at_none(text.replace("\n", "\n\n", 1), 1)
        self.look_at_none(text.replace("\n", "; "), 0)
        self.look_at_none(text.replace("\n", " \n", 1), 0)

    def test_told_lists_are_the_askers_own(self):
        text = write_case((plain_tongue(), wants_for(2), ["a", "b"]))
        tongue, wants, book = read_case(text)
        for row in (*tongue[:3], wants, book):
            row.append("spoilt")
        self.assertEqual(read_case(text), (plain_tongue(), wants_for(2), ["a", "b"]))
