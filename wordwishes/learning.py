"""Kinds learnt: with which the rows of a book are sentences."""

from wordwishes.books import is_sentence
from wordwishes.changes import put_in
from wordwishes.lexicons import marks_of, refuse_other_words
from wordwishes.things import are_alike, tuples_of

TURNS = (-1, 0, 1)


def refuse_other_words_of_book(lexicon, word, book):
    """NoWord with the first word, row by row, that is neither the lexicon's nor the one that is learnt."""
    for row in book:
        refuse_other_words(lexicon, [one for one in row if not are_alike(one, word)])


def are_sentences(lexicon, book):
    """Whether each row of the book is a sentence."""
    for row in book:
        if not is_sentence(lexicon, row):
            return False
    return True


def learnt(lexicon, word, book, size):
    """All kinds of the fewest signs, up to the size, with which the book's rows are sentences; NoWord, NoLexicon."""
    refuse_other_words_of_book(lexicon, word, book)
    signs = [(mark, turn) for mark in marks_of(lexicon) for turn in TURNS]
    # The first trial, of the kind without signs, refuses a word that can't be put in.
    for many_signs in range(size + 1):
        kinds = [kind for kind in tuples_of(signs, many_signs) if are_sentences(put_in(lexicon, word, (kind,)), book)]
        if len(kinds) > 0:
            return kinds
    return []
