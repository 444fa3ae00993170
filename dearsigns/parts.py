"""Parts: what is said of some texts, and which words go with it."""

from dearsigns.errors import TooMany
from dearsigns.tongues import look_at_tongue
from dearsigns.words import stands, text_counts, word_counts, words_of

MOST_WORDS = 400
MOST_TEXTS = 1000


def candidates_of(tongue, part):
    """The words that go with a part, in the order of words_of; TooMany of a tongue with too many words or texts."""
    look_at_tongue(tongue)
    look_at_few_texts(tongue)
    return candidates_among(words_of(tongue), {text: word for text, word in part})


def look_at_few_texts(tongue):
    """None of a tongue with few enough words and texts, else TooMany."""
    if sum(word_counts(tongue)) > MOST_WORDS:
        raise TooMany("the tongue has more than 400 words")
    if sum(text_counts(tongue)) > MOST_TEXTS:
        raise TooMany("more than 1000 texts stand in the tongue")


def candidates_among(words, said):
    """Those of the words that go with what is said of texts."""
    return [word for word in words if goes_with(said, word)]


def goes_with(said, word):
    """Whether each text that begins the word goes on, and nothing but that it ends is said of the word."""
    if said.get(word, "ends") != "ends":
        return False
    return are_all_on(said, [word[:deep] for deep in range(1, len(word)) if word[:deep] in said])


def are_all_on(said, texts):
    """Whether it is said of each of the texts that it goes on."""
    return all(said.get(text) == "on" for text in texts)


def may_be_next(tongue, said, thing):
    """Whether it is a text of which something may be said next."""
    if not stands(tongue, thing) or thing == "" or thing in said:
        return False
    return are_all_on(said, [thing[:deep] for deep in range(1, len(thing))])
