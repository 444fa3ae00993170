"""Which texts stand in a tongue, which are words, what they cost, and how many there are.

The functions of the interface look at the tongue; the others are handed one that was looked at.
"""

from dearsigns.errors import TooMany
from dearsigns.numbers import plus, shared_bottom, sum_of, top_over
from dearsigns.tongues import look_at_tongue, signs_of

MOST_WORDS = 5000


def may_stand(tongue, thing):
    """Whether it is a text that stands in the tongue."""
    look_at_tongue(tongue)
    return stands(tongue, thing)


def is_word(tongue, thing):
    """Whether it is a word of the tongue."""
    look_at_tongue(tongue)
    return stands_as_word(tongue, thing)


def may_come(tongue, ahead, sign):
    """Whether the sign may come behind the sign ahead, or first where ahead is without signs."""
    look_at_tongue(tongue)
    return follows(tongue, ahead, sign)


def way_of(tongue, text):
    """The prices of all signs of a text together."""
    look_at_tongue(tongue)
    return reckon_way(tongue, text)


def price_of(tongue, word):
    """The prices of all signs of a word but the last one, and that one's last, together."""
    look_at_tongue(tongue)
    return reckon_price(tongue, word)


def words_of(tongue):
    """All words, shorter ones first, then by the signs' order; TooMany above 5000."""
    look_at_tongue(tongue)
    if sum(word_counts(tongue)) > MOST_WORDS:
        raise TooMany("the tongue has more than 5000 words")
    comers = comers_behind(tongue)
    ends = ends_behind(tongue)
    words = []
    for length in range(1, tongue[3] + 1):
        words.extend(words_of_length(length, comers, ends))
    return words


def word_counts(tongue):
    """How many words there are of each length from 1 to longest."""
    look_at_tongue(tongue)
    enders = [sign for sign, price, last in tongue[0] if last is not None]
    return [sum([counts[sign] for sign in enders]) for counts in counts_by_last_sign(tongue)]


def text_counts(tongue):
    """How many texts stand of each length from 1 to longest."""
    look_at_tongue(tongue)
    return [sum(counts.values()) for counts in counts_by_last_sign(tongue)]


def stands(tongue, thing):
    """Whether it is a text that stands."""
    if not isinstance(thing, str) or len(thing) > tongue[3]:
        return False
    signs = signs_of(tongue)
    ahead = ""
    for sign in thing:
        if sign not in signs or not follows(tongue, ahead, sign):
            return False
        ahead = sign
    return True


def stands_as_word(tongue, thing):
    """Whether it is a text that stands as a word."""
    if not stands(tongue, thing) or thing == "":
        return False
    return lasts_of(tongue)[thing[-1]] is not None


def follows(tongue, ahead, sign):
    """Whether the sign may come behind the sign ahead, or first."""
    if ahead == "":
        return sign not in tongue[1]
    return ahead + sign not in tongue[2]


def reckon_way(tongue, text):
    """The way of a text that stands."""
    prices = {sign: price for sign, price, last in tongue[0]}
    return sum_of([prices[sign] for sign in text])


def reckon_price(tongue, word):
    """The price of a word."""
    return plus(reckon_way(tongue, word[:-1]), lasts_of(tongue)[word[-1]])


def lasts_of(tongue):
    """Each sign's last, by the sign."""
    return {sign: last for sign, price, last in tongue[0]}


def over_one_bottom(tongue):
    """A tuple (bottom, rows): the signs with their prices and lasts as tops over one common bottom."""
    rows = tongue[0]
    bottom = shared_bottom([one for sign, price, last in rows for one in (price, last) if one is not None])
    return (bottom, [(sign, top_over(price, bottom), None if last is None else top_over(last, bottom))
                     for sign, price, last in rows])


def price_tops(rows, words):
    """Each word's price, by the word, as a top over the bottom of these rows."""
    prices = {sign: price for sign, price, last in rows}
    lasts = {sign: last for sign, price, last in rows}
    return {word: sum([prices[sign] for sign in word[:-1]]) + lasts[word[-1]] for word in words}


def comers_behind(tongue):
    """The signs that may come behind each sign, and first behind the text without signs."""
    signs = signs_of(tongue)
    return {ahead: [sign for sign in signs if follows(tongue, ahead, sign)] for ahead in ["", *signs]}


def counts_by_last_sign(tongue):
    """For each length from 1 to longest, how many texts stand with each last sign."""
    signs = signs_of(tongue)
    comers = comers_behind(tongue)
    rows = [{sign: 1 if sign in comers[""] else 0 for sign in signs}]
    while len(rows) < tongue[3]:
        shorter = rows[-1]
        counts = {sign: 0 for sign in signs}
        for ahead in signs:
            for sign in comers[ahead]:
                counts[sign] += shorter[ahead]
        rows.append(counts)
    return rows


def ends_behind(tongue):
    """For 0, 1 and more signs to come, behind which signs so many can come up to a word's end."""
    signs = signs_of(tongue)
    comers = comers_behind(tongue)
    rows = [{sign: last is not None for sign, price, last in tongue[0]}]
    while len(rows) < tongue[3]:
        ends = rows[-1]
        rows.append({sign: any([ends[comer] for comer in comers[sign]]) for sign in signs})
    return rows


def words_of_length(length, comers, ends):
    """The words of one length, in the signs' order."""
    texts = [""]
    for left in reversed(range(length)):
        # Texts that no word of this length goes on from would be many more than the words.
        texts = [text + sign for text in texts for sign in comers[text[-1:]] if ends[left][sign]]
    return texts
