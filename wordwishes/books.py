"""Lexicons compared: all their sentences of a length, and the first words that part two of them."""

from wordwishes.drawings import many
from wordwishes.lexicons import words_of
from wordwishes.things import tuples_of


def is_sentence(lexicon, words):
    """Whether the words are a sentence."""
    return many(lexicon, words) > 0


def sentences_of(lexicon, length):
    """All sentences of so many words, sorted."""
    return [words for words in tuples_of(sorted(words_of(lexicon)), length) if is_sentence(lexicon, words)]


def parting(one, other, length):
    """The first words, up to the length, that are a sentence in one of the lexicons alone, or None."""
    shared = sorted(set(words_of(one)) & set(words_of(other)))
    for many_words in range(length + 1):
        for words in tuples_of(shared, many_words):
            if is_sentence(one, words) != is_sentence(other, words):
                return words
    return None
