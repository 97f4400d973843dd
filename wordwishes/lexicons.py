"""Lexicons: their words, their kinds and their marks."""

from wordwishes.errors import NoWord
from wordwishes.marks import is_mark, is_order
from wordwishes.signs import is_row
from wordwishes.things import is_short_word, is_tuple_of

MOST_ENTRIES = 10
MOST_KINDS = 4
MOST_SIGNS = 5


def are_unlike(things):
    """Whether no two of these texts or rows are alike."""
    return len(set(things)) == len(things)


def is_kind(thing):
    """Whether the thing is a row that may be a word's kind."""
    return is_row(thing) and len(thing) <= MOST_SIGNS


def are_kinds(thing):
    """Whether the thing is a tuple of kinds that a word may have."""
    return (
        isinstance(thing, tuple)
        and 1 <= len(thing) <= MOST_KINDS
        and all([is_kind(kind) for kind in thing])
        and are_unlike(thing)
    )


def is_entry(thing):
    """Whether the thing is a tuple (word, kinds)."""
    return is_tuple_of(thing, 2) and is_short_word(thing[0]) and are_kinds(thing[1])


def are_entries(thing):
    """Whether the thing is a tuple of entries that a lexicon may have."""
    return (
        isinstance(thing, tuple)
        and 1 <= len(thing) <= MOST_ENTRIES
        and all([is_entry(entry) for entry in thing])
        and are_unlike([word for word, kinds in thing])
    )


def is_lexicon(thing):
    """Whether the thing is a lexicon (order, goal, entries)."""
    return is_tuple_of(thing, 3) and is_order(thing[0]) and is_mark(thing[1]) and are_entries(thing[2])


def words_of(lexicon):
    """The words of the lexicon, in their order."""
    return [word for word, kinds in lexicon[2]]


def has_word(lexicon, thing):
    """Whether the thing is a word of the lexicon."""
    # What is no word isn't compared: a thing of another kind may call itself alike to any text.
    return is_short_word(thing) and thing in words_of(lexicon)


def kinds_of(lexicon, word):
    """The word's kinds; NoWord where the lexicon doesn't have it."""
    if not has_word(lexicon, word):
        raise NoWord(word)
    return lexicon[2][words_of(lexicon).index(word)][1]


def refuse_other_words(lexicon, words):
    """NoWord with the first word that the lexicon doesn't have."""
    for word in words:
        kinds_of(lexicon, word)


def marks_of(lexicon):
    """The marks of the order, the goal and the kinds, rising, each once."""
    order, goal, entries = lexicon
    in_order = [mark for pair in order for mark in pair]
    in_kinds = [mark for word, kinds in entries for kind in kinds for mark, turn in kind]
    return sorted(set(in_order + [goal] + in_kinds))
