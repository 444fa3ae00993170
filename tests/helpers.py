"""What the tests share: tongues, things that are none, and slow ways to the same answers."""

from fractions import Fraction
from itertools import product
from random import Random


def nested(many, inner=0):
    """So many lists within one another."""
    thing = inner
    for step in range(many):
        thing = [thing]
    return thing


def nested_tuples(many):
    thing = ()
    for step in range(many):
        thing = (thing,)
    return thing


def nested_dicts(many):
    thing = {}
    for step in range(many):
        thing = {"a": thing}
    return thing


# Things of any kind that are no text, no list with something in it, no tuple of two to four things.
ODD_THINGS = [
    None, True, False, 0, 1, -1, 7, 10 ** 60, (), {}, (None,), (1,), {"a": 1}, {0: "a", (1, "b"): None},
    {None: [], True: ()}, nested_tuples(400), nested_dicts(400), ((((),),),),
]
ODD_TEXTS = ["", "a", "ab", "A", " ", "a ", "\n", "\t", "~", "a" * 9, "a" * 3000, "1", "-", "None"]
ODD_LISTS = [[], [None], [[]], [()], [{}], [True], [0], [""], ["a"], ["a", None], nested(400), nested(8), [1] * 30]
ODD_TUPLES = [(1, 2), (True, 1), (1, True), ("a", 1), (None, None), ([], []), (1, 2, 3), (1, 2, 3, 4), ([], [], [], 1),
              (1, 2, 3, 4, 5), (nested(400), nested_tuples(398))]
ANYTHING = ODD_THINGS + ODD_TEXTS + ODD_LISTS + ODD_TUPLES

TWENTY_WORDS = [one + other for one in "abcde" for other in "wxyz"]
NO_PLAIN_BOOKS = [thing for thing in ANYTHING if thing != ["a"]] + [
    [*TWENTY_WORDS, "f"], ["a", "a"], ["a", "b", "ab"], ["ab", "b", "a"], ["abc", "ab"], ["a", ""], ["a", "abcdefghi"],
    ["a", "B"], ["a", "b1"], ["a", "b "], ["a", None], ["a", ["b"]], ["a", 1], [True], ("a", "b"), {"a": "b"}, "ab",
    {0: "a"}, [["a"]], [("a",)], ["a", "b\n"],
]


def sign(letter, price=(1, 1), last=(1, 1)):
    return (letter, price, last)


def plain_tongue(letters="ab", longest=3):
    return ([sign(letter) for letter in letters], [], [], longest)


def sample_tongue():
    """Four signs, one without a last, one never first, a pair of unlike signs and one of twice the same."""
    return ([sign("d", (1, 2), (5, 1)), sign("a", (2, 3), None), sign("c", (7, 1), (1, 9)), sign("b", (3, 1), (1, 2))],
            ["b"], ["da", "cc"], 4)


def wordless_tongues():
    return [
        ([sign("a"), sign("b")], ["b", "a"], [], 8),
        ([sign("a", (1, 2), None), sign("b", (1, 2), None), sign("c", (3, 1), None)], [], [], 8),
        ([sign("a"), sign("b", (1, 1), None)], ["a"], ["ba"], 8),
    ]


def tongue_of_5000_words():
    signs = [sign(letter) for letter in "abcdef"]
    signs[2] = sign("c", (1, 1), None)
    return (signs, [], ["be", "de", "ec", "fe"], 5)


def tongue_of_5001_words():
    signs = [sign("a"), sign("b", (1, 1), None), sign("c"), sign("d"), sign("e", (1, 1), None)]
    return (signs, [], ["ca", "cb", "ce", "de"], 6)


def tongue_with(letters, lastless, firsts, pairs, longest):
    """Signs that all cost alike, some of them never a word's last."""
    signs = [sign(letter, (1, 1), None if letter in lastless else (1, 1)) for letter in letters]
    return (signs, firsts, pairs, longest)


def tongue_of_5000_texts(lastless=""):
    return tongue_with("abcde", lastless, [], ["ba", "bc", "da", "dc", "ea"], 6)


def tongue_of_5001_texts(lastless=""):
    return tongue_with("abcde", lastless, ["d", "e"], ["ad", "eb", "ec", "ed"], 6)


# The greatest tongues for trees of reasons, and such as are too great for these by a word or a text.
MOST_OF_REASONS = [
    tongue_with("abcde", "c", ["d"], ["bc", "eb"], 4),
    tongue_with("abcdef", "cdef", [], ["bf", "de", "df", "ea", "ec"], 4),
]
TOO_MANY_FOR_REASONS = [
    tongue_with("abcde", "d", ["d"], ["cb", "dc"], 4),
    tongue_with("abcdef", "cdef", ["d"], ["dc", "de", "df", "eb"], 4),
    tongue_with("abcdef", "abcdef", ["d"], ["dc", "de", "df", "eb"], 4),
    tongue_with("abcdef", "", [], [], 8),
]


def some_tongues(many=60):
    """Small tongues of every make, the same ones at each run."""
    chance = Random(20)
    tongues = [sample_tongue(), plain_tongue(), plain_tongue("zyx", 1), *wordless_tongues()[1:]]
    tongues = [(signs, firsts, pairs, min(longest, 4)) for signs, firsts, pairs, longest in tongues]
    while len(tongues) < many:
        letters = chance.sample("abcdefghijklmnopqrstuvwxyz", chance.randint(2, 6))
        signs = [sign(letter, some_price(chance), some_price(chance) if chance.random() < 0.7 else None)
                 for letter in letters]
        firsts = [letter for letter in letters if chance.random() < 0.2]
        often = chance.choice([0, 0.2, 0.5])
        pairs = [one + other for one in letters for other in letters if chance.random() < often]
        chance.shuffle(firsts)
        chance.shuffle(pairs)
        tongues.append((signs, firsts, pairs, chance.randint(1, 4 if len(letters) < 5 else 3)))
    return tongues


def some_price(chance):
    return as_tuple(Fraction(chance.randint(1, 9), chance.randint(1, 9)))


def as_tuple(one):
    return (one.numerator, one.denominator)


def as_fraction(one):
    return Fraction(one[0], one[1])


def texts_up_to(letters, longest):
    """All texts of these letters, shorter ones first, of one length by the letters' order."""
    return ["".join(row) for length in range(longest + 1) for row in product(letters, repeat=length)]


def slow_stands(tongue, text):
    signs, firsts, pairs, longest = tongue
    if len(text) > longest or any(one not in [row[0] for row in signs] for one in text):
        return False
    if text and text[0] in firsts:
        return False
    return not any(text[place:place + 2] in pairs for place in range(len(text) - 1))


def slow_is_word(tongue, text):
    lasts = {row[0]: row[2] for row in tongue[0]}
    return text != "" and slow_stands(tongue, text) and lasts[text[-1]] is not None


def slow_way(tongue, text):
    prices = {row[0]: as_fraction(row[1]) for row in tongue[0]}
    return sum([prices[one] for one in text], Fraction(0))


def slow_price(tongue, word):
    lasts = {row[0]: row[2] for row in tongue[0]}
    return slow_way(tongue, word[:-1]) + as_fraction(lasts[word[-1]])


def slow_words(tongue):
    letters = [row[0] for row in tongue[0]]
    return [text for text in texts_up_to(letters, tongue[3]) if slow_is_word(tongue, text)]


def great_tongue():
    """Six signs, words to eight signs, more than two million words; ends cost far less than ways."""
    signs = [sign(letter, (997 - place, 1009), (3, 11 + 3 * place)) for place, letter in enumerate("abcdef")]
    return (signs, ["a"], ["ab"], 8)


def wants_for(many, count=1):
    return [(name, count + number) for number, name in enumerate("abcdefghijklmnopqrstuvwxyz"[:many])]


def some_book(chance, tongue, most=20):
    """A book of the tongue by chance, [] where it has no words; not ordered as a rule."""
    words = slow_words(tongue)
    chance.shuffle(words)
    wanted = chance.randint(1, most)
    book = []
    for word in words:
        if len(book) < wanted and not any(word.startswith(other) or other.startswith(word) for other in book):
            book.append(word)
    return book


def spoilt_tongues():
    """Tuples (thing, part): what is no tongue, and the part that is told of it."""
    good = sample_tongue()
    spoilt = [(thing, None) for thing in ANYTHING if not (isinstance(thing, tuple) and len(thing) == 4)]
    spoilt += [(list(good), None), (good[:3], None), ((*good, 1), None), ({0: good}, None)]
    for place, part in enumerate(("signs", "firsts", "pairs", "longest")):
        for wrong in WRONG_PARTS[part]:
            alone = (*good[:place], wrong, *good[place + 1:])
            spoilt.append((alone, part))
            for later in range(place + 1, 4):
                spoilt.append(((*alone[:later], None, *alone[later + 1:]), part))
    return spoilt


WRONG_PARTS = {
    "signs": [thing for thing in ANYTHING] + [
        [sign("a")],
        [sign(letter) for letter in "abcdefg"],
        (sign("a"), sign("b")),
        {"a": (1, 1), "b": (1, 1)},
        "ab",
        [sign("a"), sign("b"), sign("a")],
        [sign("b"), sign("b")],
        [sign("a"), sign("")],
        [sign("a"), sign("bc")],
        [sign("a"), sign("B")],
        [sign("a"), sign("1")],
        [sign("a"), sign(" ")],
        [sign("a"), sign(None)],
        [sign("a"), sign(["b"])],
        [sign("a"), list(sign("b"))],
        [sign("a"), ("b", (1, 1))],
        [sign("a"), ("b", (1, 1), (1, 1), None)],
        *[[sign("a"), sign("b", price, (1, 1))] for price in (
            None, 1, True, "1", (0, 1), (-1, 2), (2, 4), (1, 0), (1, -1), (True, 1), (1, True), [1, 1], (1,), (1, 1, 1),
            ("1", 1), (1, None), ((1, 1), 1))],
        *[[sign("a"), sign("b", (1, 1), last)] for last in (
            1, True, False, 0, "1", "-", (0, 1), (-1, 2), (2, 4), (1, 0), (1, -1), (True, 1), (1, True), [1, 1], (),
            (1, 1, 1), {})],
    ],
    "firsts": [thing for thing in ANYTHING if thing != [] and thing != ["a"]] + [
        ["a", "a"], ["a", "e"], ["ab"], ["da"], ("a",), {"a": True}, "a", ["a", None], [["a"]], [True], ["A"], [""],
        ["d", "a", "c", "b", "d"],
    ],
    "pairs": [thing for thing in ANYTHING if thing != []] + [
        ["ab", "ab"], ["ae"], ["ea"], ["a"], ["abc"], [""], ("ab",), {"ab": True}, "ab", ["ab", None], [("a", "b")],
        [["a", "b"]], ["a b"], ["AB"], ["aa", "bb", "aa"], [12],
    ],
    "longest": [thing for thing in ANYTHING if thing not in (1, 7) or thing is True] + [
        0, 9, -1, 10 ** 59, True, False, "3", None, (3, 1), [3], (3,),
    ],
}


def spoilt_wants():
    """Tuples (thing, number): what are no wants, and the number that is told of it."""
    twenty = wants_for(20)
    spoilt = [(thing, None) for thing in ANYTHING if not isinstance(thing, list) or thing == [] or len(thing) > 20]
    spoilt += [(tuple(twenty), None), ({"a": 1}, None), (twenty + [("u", 1)], None), (twenty + [None], None)]
    spoilt += [(thing, 0) for thing in ANYTHING if isinstance(thing, list) and 0 < len(thing) <= 20]
    for wrong in WRONG_WANTS:
        spoilt += [([wrong], 0), ([("a", 1), wrong], 1), ([wrong, wrong], 0), ([*twenty[:19], wrong], 19),
                   ([*twenty[:7], wrong, None, ("b", 1)], 7)]
    spoilt += [([("a", 1), ("b", 2), ("a", 3)], 2), ([("a", 1), ("a", 1), None], 1), ([*twenty[:19], ("s", 1)], 19)]
    return spoilt


WRONG_WANTS = [
    None, 1, "a", [], ["a", 1], ("a",), ("a", 1, 1), (), {}, {"a": 1}, ("", 1), ("A", 1), ("abcdefghi", 1), (1, "a"),
    (None, 1), (["a"], 1), ("a b", 1), ("a1", 1), ("x", -1), ("x", 10 ** 9 + 1), ("x", 10 ** 59), ("x", True),
    ("x", False), ("x", None), ("x", "1"), ("x", (1, 1)), ("x", [1]), (True, 1), (("a", 1), 1),
]


def small_cases(many=40, most_things=4, most_rows=3000):
    """Tuples (tongue, wants) with few rows of so many words, the same ones at each run; counts often alike or 0."""
    chance = Random(40)
    cases = []
    for signs, firsts, pairs, longest in some_tongues(4 * many):
        letters = [row[0] for row in signs[:3]]
        tongue = (signs[:3], [one for one in firsts if one in letters],
                  [pair for pair in pairs if pair[0] in letters and pair[1] in letters], min(longest, 3))
        wants = [(name, chance.choice([0, 1, 1, 2, 5, 9, 1000, 10 ** 9]))
                 for name in "abcdef"[:chance.randint(1, most_things)]]
        if len(slow_words(tongue)) ** len(wants) <= most_rows:
            cases.append((tongue, wants))
    return cases[:many]


def slow_books(tongue, many):
    """All books for so many things, by going through all rows of words."""
    books = [[]]
    words = slow_words(tongue)
    for step in range(many):
        books = [[*book, word] for book in books for word in words
                 if not any(word.startswith(other) or other.startswith(word) for other in book)]
    return books


def slow_is_ordered(tongue, book):
    letters = [row[0] for row in tongue[0]]
    places = [[letters.index(one) for one in word] for word in book]
    return places == sorted(places)


def slow_cost(tongue, wants, book):
    """What a book costs."""
    return sum([count * slow_price(tongue, word) for (name, count), word in zip(wants, book)], Fraction(0))


def costed_books(tongue, wants, ordered):
    """Tuples (book, cost) of all books, or all ordered ones."""
    prices = {word: slow_price(tongue, word) for word in slow_words(tongue)}
    return [(book, sum([count * prices[word] for (name, count), word in zip(wants, book)], Fraction(0)))
            for book in slow_books(tongue, len(wants)) if not ordered or slow_is_ordered(tongue, book)]


def slow_costs(tongue, wants, ordered):
    """What each book costs."""
    return [cost for book, cost in costed_books(tongue, wants, ordered)]


def slow_least(tongue, wants, ordered):
    """What a cheapest book costs, None where there is none."""
    return min(slow_costs(tongue, wants, ordered), default=None)


def slow_share(whole, parts, text):
    """The share of a text."""
    by_signs = {(ahead, one): as_fraction(part) for ahead, one, part in parts}
    share = as_fraction(whole)
    for place, one in enumerate(text):
        share *= by_signs.get((text[place - 1] if place else "", one), 0)
    return share


# No fraction from nought on.
NO_SHARE = [None, True, False, 0, 1, "1", "", (2, 4), (0, 2), (1, 0), (-1, 1), (-1, 10 ** 50), (1, -1), (True, 1),
            (1, True), [1, 1], (1,), (1, 1, 1), (), ("1", 1), ((1, 1), 1), (None, 1), [], {}, {0: 1}, nested(300),
            nested_tuples(300)]


def spoilt_shares(one, other, foreign, many):
    """Things without the form of shares, of a tongue with one and the other sign but not the foreign one."""
    whole, parts, values = (1, 2), [("", one, (1, 2)), (one, other, (1, 3)), (one, one, (2, 3))], [(0, 1)] * many
    spoilt = [thing for thing in ANYTHING]
    spoilt += [[whole, parts, values], (whole, parts), (whole, parts, values, values), (parts, whole, values),
               (whole, values, parts), ((whole, parts, values),), {0: whole, 1: parts, 2: values}]
    spoilt += [(wrong, parts, values) for wrong in NO_SHARE]
    wrong_parts = [tuple(parts), {part: True for part in parts}, None, 1, "", "ab", parts[0], [parts], [None], [()],
                   [whole], [list(parts[0])], [parts[0][:2]], [(*parts[0], (0, 1))], [*parts, parts[0]],
                   [*parts, ("", one, (0, 1))], [parts[0], parts[1], ("", one, (1, 4))], nested(300),
                   nested_tuples(300), [nested_tuples(300)], [(one, other, (1, 3)), (one, one, (201, 300))],
                   [("", one, (1, 1)), ("", other, (1, 10 ** 50))], [("", one, (3, 2))], [("", one, (10 ** 59, 1))],
                   [(one, other, (1, 2)), (other, one, (1, 1)), (one, one, (2, 3))]]
    wrong_parts += [[parts[0], (one, other, wrong)] for wrong in NO_SHARE]
    for wrong in (foreign, one + other, one.upper(), None, 0, True, (), (one,), [one], [], {}, " ", nested(300)):
        wrong_parts += [[(wrong, one, (1, 2))], [parts[1], (one, wrong, (0, 1))], [("", wrong, (0, 1))]]
    wrong_parts += [[(one, "", (1, 2))], [("", "", (1, 2))]]
    spoilt += [(whole, wrong, values) for wrong in wrong_parts]
    wrong_values = [tuple(values), None, 0, "", {}, {0: (0, 1)}, values[1:], [*values, (0, 1)], [values], nested(300),
                    nested_tuples(300)]
    wrong_values += [[*values[:-1], wrong] for wrong in NO_SHARE] + [[wrong, *values[1:]] for wrong in NO_SHARE]
    return spoilt + [(whole, parts, wrong) for wrong in wrong_values]


def slow_candidates(tongue, part):
    """The words that go with a part, as the document tells it."""
    said = dict(part)
    return [word for word in slow_words(tongue)
            if all(said[text] == "on" for text in said if word.startswith(text) and text != word)
            and said.get(word, "ends") == "ends"]


def next_texts(tongue, part):
    """The texts that may stand next in a part."""
    said = dict(part)
    texts = [text for text in texts_up_to([row[0] for row in tongue[0]], tongue[3]) if text]
    return [text for text in texts if text not in said and slow_stands(tongue, text)
            and all(said.get(text[:deep]) == "on" for deep in range(1, len(text)))]


def some_part(chance, tongue, most):
    """A part by chance, of at most so many texts."""
    part = []
    while len(part) < most:
        texts = next_texts(tongue, part)
        if not texts:
            break
        part.append((chance.choice(texts), chance.choice(["ends", "on", "on", "unused"])))
    return part


def goes_with_part(book, part):
    """Whether what a part says is so of a book."""
    for text, word in part:
        begun = [other for other in book if other.startswith(text)]
        real = "ends" if text in book else "on" if begun else "unused"
        if word != real:
            return False
    return True


def tree_size(tree):
    """How many splits and reasons are in a tree of reasons."""
    return 1 + sum(tree_size(part) for part in tree[2]) if tree[0] == "split" else 1
