"""Trees of books, and books of trees."""

from dearsigns.errors import NoTree
from dearsigns.numbers import is_whole, is_whole_within
from dearsigns.tongues import look_at_tongue, signs_of
from dearsigns.words import stands_as_word


def tree_of(tongue, book):
    """The tree of a book."""
    look_at_tongue(tongue)
    return branches_of(signs_of(tongue), list(enumerate(book)), 0)


def branches_of(signs, things, deep):
    """The tree of numbered words whose first signs, as many as deep tells, are alike."""
    tree = []
    for sign in signs:
        taken = [(number, word) for number, word in things if word[deep] == sign]
        if taken:
            tree.append((sign, node_of(signs, taken, deep + 1)))
    return tree


def node_of(signs, things, deep):
    """The number of the thing whose word ends so deep, else a tree."""
    number, word = things[0]
    # No word begins another one, so a word that ends here is alone.
    if len(word) == deep:
        return number
    return branches_of(signs, things, deep)


def book_of(tongue, many, thing):
    """The book for so many things whose tree it is, or NoTree."""
    look_at_tongue(tongue)
    words = {}
    gather_words(tongue, many, thing, "", words)
    if len(words) != many:
        raise NoTree("a thing is not in the tree")
    return [words[number] for number in range(many)]


def gather_words(tongue, many, thing, text, words):
    """Puts the words that the tree behind the text ends into words, by their things' numbers."""
    # What goes deeper than a word is none, however many lists are within it.
    if not isinstance(thing, list) or len(thing) == 0 or len(text) == tongue[3]:
        raise NoTree("no list of branches that words can go along")
    signs = signs_of(tongue)
    least = 0
    for branch in thing:
        sign, node = look_at_branch(signs[least:], branch)
        least = signs.index(sign) + 1
        if is_whole(node):
            put_word(tongue, many, node, text + sign, words)
        else:
            gather_words(tongue, many, node, text + sign, words)


def look_at_branch(signs, thing):
    """The branch itself where its sign is one of these, else NoTree."""
    if not isinstance(thing, tuple) or len(thing) != 2:
        raise NoTree("a branch is a tuple of a sign and a node")
    if not isinstance(thing[0], str) or thing[0] not in signs:
        raise NoTree("a branch's sign is one of the tongue, in the signs' order, once")
    return thing


def put_word(tongue, many, number, text, words):
    """Puts the word of a thing into words, or NoTree."""
    if not is_whole_within(number, 0, many - 1) or number in words:
        raise NoTree("each thing's number stands once")
    if not stands_as_word(tongue, text):
        raise NoTree("no word leads to the thing")
    words[number] = text
