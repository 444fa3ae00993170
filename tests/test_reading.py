"""Points 14 and 15: texts read to rows of things, and readers told sign after sign."""

from random import Random
from unittest import TestCase

from dearsigns.errors import BadSign, DearError, NoBook
from dearsigns.reading import Reader, read_row
from dearsigns.writing import write_row
from tests.helpers import ANYTHING, NO_PLAIN_BOOKS, TWENTY_WORDS, some_book, some_tongues, texts_up_to

BOOK = ["ab", "b", "aab", "aaaz"]


def some_plain_books():
    chance = Random(14)
    books = [some_book(chance, tongue) for tongue in some_tongues(40)]
    return [book for book in books if book] + [["a"], ["b", "a"], BOOK, TWENTY_WORDS, ["zzzzzzzz"]]


def slow_read(book, text):
    """The row, or the place that is refused, by keeping every row whose text begins the text."""
    rows = {0: []}
    for place in range(len(text)):
        for start in list(rows):
            if text[start:place + 1] in book:
                rows[place + 1] = [*rows[start], book.index(text[start:place + 1])]
        if not any(word.startswith(text[start:place + 1]) for start in rows for word in book):
            return place
    return rows.get(len(text), len(text))


def read_or_place(book, text):
    try:
        return read_row(book, text)
    except BadSign as refusal:
        return refusal.place


class ReadRowTest(TestCase):

    def test_rows(self):
        self.assertEqual(read_row(BOOK, "babaabaaazb"), [1, 0, 2, 3, 1])
        self.assertEqual(read_row(BOOK, "b"), [1])
        self.assertEqual(read_row(["a"], "aaa"), [0, 0, 0])
        self.assertEqual(read_row(TWENTY_WORDS, "ezawez"), [19, 0, 19])

    def test_the_text_without_signs(self):
        for book in some_plain_books():
            self.assertEqual(read_row(book, ""), [])

    def test_what_is_written_is_read_back(self):
        chance = Random(15)
        for book in some_plain_books():
            for step in range(8):
                row = [chance.randrange(len(book)) for part in range(chance.randint(0, 40))]
                self.assertEqual(read_row(book, write_row(book, row)), row)
        self.assertEqual(read_row(["zzzzzzzz"], "z" * 3000), [0] * 375)

    def test_the_first_sign_that_cannot_stand(self):
        for text, place in (("c", 0), ("bc", 1), ("ac", 1), ("az", 1), ("aaaa", 3), ("aaaza", 5), ("babz", 3), ("B", 0),
                            (" ", 0), ("b b", 1), ("b\n", 1), ("abab~ab", 4), ("aaabc", 3), ("bac", 2)):
            with self.assertRaises(BadSign) as caught:
                read_row(BOOK, text)
            self.assertEqual(caught.exception.place, place, text)
            self.assertIsInstance(caught.exception, DearError)

    def test_a_text_that_ends_amid_a_word(self):
        for text in ("a", "aa", "aaa", "ba", "baa", "aaazaaa", "b" * 40 + "a"):
            with self.assertRaises(BadSign) as caught:
                read_row(BOOK, text)
            self.assertEqual(caught.exception.place, len(text))

    def test_all_short_texts(self):
        for book in (BOOK, ["a"], ["ba", "bb", "a"], ["aba", "abb", "b"], ["bab", "aab"]):
            for text in texts_up_to("abz", 5):
                self.assertEqual(read_or_place(book, text), slow_read(book, text), (book, text))

    def test_texts_by_chance(self):
        chance = Random(16)
        for book in some_plain_books():
            for step in range(8):
                letters = list(write_row(book, [chance.randrange(len(book)) for part in range(8)]))
                letters[chance.randrange(len(letters))] = chance.choice(letters + ["~"])
                text = "".join(letters[:chance.randint(1, len(letters))])
                self.assertEqual(read_or_place(book, text), slow_read(book, text), (book, text))

    def test_what_is_no_text(self):
        for thing in ANYTHING + [["a", "b"], ("a",), ["b"], 98]:
            if not isinstance(thing, str):
                with self.assertRaises(BadSign) as caught:
                    read_row(BOOK, thing)
                self.assertEqual(caught.exception.place, 0)
                self.assertIs(type(caught.exception.place), int)

    def test_no_plain_book_comes_ahead(self):
        for thing in NO_PLAIN_BOOKS:
            for text in ("", "a", "~", None, ["a"]):
                with self.assertRaises(NoBook):
                    read_row(thing, text)


class ReaderTest(TestCase):

    def test_signs_told_one_by_one(self):
        reader = Reader(BOOK)
        self.assertEqual((reader.amid(), reader.next_signs()), ("", ["a", "b"]))
        self.assertIsNone(reader.put_sign("a"))
        self.assertEqual((reader.amid(), reader.next_signs()), ("a", ["a", "b"]))
        self.assertIsNone(reader.put_sign("a"))
        self.assertEqual((reader.amid(), reader.next_signs()), ("aa", ["a", "b"]))
        self.assertIsNone(reader.put_sign("a"))
        self.assertEqual((reader.amid(), reader.next_signs()), ("aaa", ["z"]))
        self.assertEqual(reader.put_sign("z"), 3)
        self.assertEqual((reader.amid(), reader.next_signs()), ("", ["a", "b"]))
        self.assertEqual(reader.put_sign("b"), 1)
        self.assertEqual((reader.amid(), reader.next_signs()), ("", ["a", "b"]))

    def test_the_number_nought_is_told_as_a_number(self):
        told = Reader(["a", "b"]).put_sign("a")
        self.assertEqual(told, 0)
        self.assertIs(type(told), int)

    def test_next_signs_are_sorted_as_letters_are(self):
        reader = Reader(["zq", "zb", "m", "c", "zk", "ab"])
        self.assertEqual(reader.next_signs(), ["a", "c", "m", "z"])
        reader.put_sign("z")
        self.assertEqual(reader.next_signs(), ["b", "k", "q"])
        self.assertEqual(reader.put_sign("k"), 4)

    def test_readers_against_rows(self):
        chance = Random(17)
        for book in some_plain_books():
            reader = Reader(book)
            row = [chance.randrange(len(book)) for part in range(20)]
            told = []
            for number in row:
                for place, sign in enumerate(book[number]):
                    self.assertEqual(reader.amid(), book[number][:place])
                    fitting = {word[place] for word in book if word.startswith(book[number][:place])}
                    self.assertEqual(reader.next_signs(), sorted(fitting))
                    told.append(reader.put_sign(sign))
            self.assertEqual([number for number in told if number is not None], row)
            self.assertEqual(len(told), len(write_row(book, row)))

    def test_refused_signs_of_any_kind(self):
        for start, place in (("", 0), ("a", 1), ("aa", 2), ("aaa", 3), ("b", 1), ("bba", 3), ("aaazb", 5)):
            reader = Reader(BOOK)
            for sign in start:
                reader.put_sign(sign)
            before = (reader.amid(), reader.next_signs())
            for thing in ANYTHING + ["c", "ba", "bb", ["b"], ("b",), {"b": 1}, 98, "aaz", "z "]:
                if isinstance(thing, str) and thing in before[1]:
                    continue
                with self.assertRaises(BadSign) as caught:
                    reader.put_sign(thing)
                self.assertEqual(caught.exception.place, place)
                self.assertEqual((reader.amid(), reader.next_signs()), before)

    def test_it_goes_on_behind_a_refused_sign(self):
        chance = Random(18)
        for book in some_plain_books():
            plain, teased = Reader(book), Reader(book)
            taken = 0
            for number in [chance.randrange(len(book)) for part in range(20)]:
                for sign in book[number]:
                    with self.assertRaises(BadSign) as caught:
                        teased.put_sign(chance.choice(["~", "", None, sign + sign, [sign]]))
                    self.assertEqual(caught.exception.place, taken)
                    self.assertEqual(teased.put_sign(sign), plain.put_sign(sign))
                    self.assertEqual((teased.amid(), teased.next_signs()), (plain.amid(), plain.next_signs()))
                    taken += 1

    def test_no_plain_book(self):
        for thing in NO_PLAIN_BOOKS:
            with self.assertRaises(NoBook):
                Reader(thing)

    def test_the_book_may_be_changed_behind_the_making(self):
        book = ["ab", "b"]
        reader = Reader(book)
        book[0] = "zz"
        book.append("c")
        self.assertEqual(reader.next_signs(), ["a", "b"])
        self.assertIsNone(reader.put_sign("a"))
        book.clear()
        self.assertEqual(reader.put_sign("b"), 0)
        self.assertEqual(reader.put_sign("b"), 1)

    def test_told_signs_may_be_changed(self):
        reader = Reader(["ab", "b"])
        for step in range(3):
            told = reader.next_signs()
            self.assertEqual(told, ["a", "b"])
            told.append("z")
            told.reverse()
        with self.assertRaises(BadSign):
            reader.put_sign("z")
        kept = reader.next_signs()
        reader.put_sign("a")
        self.assertEqual(kept, ["a", "b"])

    def test_readers_of_one_book_do_not_hang_together(self):
        one, other = Reader(BOOK), Reader(BOOK)
        one.put_sign("a")
        self.assertEqual((one.amid(), other.amid()), ("a", ""))
        self.assertEqual(other.put_sign("b"), 1)
        self.assertEqual(one.put_sign("b"), 0)
