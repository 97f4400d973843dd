"""Lexicons changed: mirrored, with words put in and taken out, shortened."""

from wordwishes.drawings import refuse_no_drawing
from wordwishes.errors import NoLexicon
from wordwishes.lexicons import has_word, is_lexicon, refuse_other_words, words_of
from wordwishes.plainrows import plain_rows
from wordwishes.sentences import signs_of
from wordwishes.signs import mirror


def lexicon_with(lexicon, entries):
    """The lexicon with these entries for its own; NoLexicon where it comes to be none."""
    changed = (lexicon[0], lexicon[1], tuple(entries))
    if not is_lexicon(changed):
        raise NoLexicon("this comes to be no lexicon")
    return changed


def mirrored(lexicon):
    """The lexicon with each kind's mirror image."""
    order, goal, entries = lexicon
    return (order, goal, tuple([(word, tuple([mirror(kind) for kind in kinds])) for word, kinds in entries]))


def mirrored_arc(arc, last):
    """The arc's mirror image; the sign with the last number, the goal's wish, stays."""
    left, right = arc
    if right == last:
        return (last - 1 - left, last)
    return (last - 1 - right, last - 1 - left)


def mirrored_drawing(lexicon, words, drawing):
    """The drawing of the words in reverse order in the lexicon mirrored; NoWord, then NoDrawing."""
    refuse_other_words(lexicon, words)
    refuse_no_drawing(lexicon, words, drawing)
    choice, arcs = drawing
    last = len(signs_of(lexicon, words, choice)) - 1
    return (choice[::-1], tuple(sorted([mirrored_arc(arc, last) for arc in arcs])))


def put_in(lexicon, word, kinds):
    """The lexicon with the word and its kinds, at the end or in the word's place; NoLexicon."""
    entry = (word, kinds)
    entries = lexicon[2]
    at = words_of(lexicon).index(word) if has_word(lexicon, word) else len(entries)
    return lexicon_with(lexicon, entries[:at] + (entry,) + entries[at + 1 :])


def taken_out(lexicon, word):
    """The lexicon without the word; NoWord where it isn't there, NoLexicon where it is the last one."""
    refuse_other_words(lexicon, (word,))
    return lexicon_with(lexicon, [entry for entry in lexicon[2] if entry[0] != word])


def short_kinds(order, kinds):
    """The plain rows of the kinds in their order, each once, at its first place."""
    told = []
    for kind in kinds:
        told.extend([row for row in plain_rows(order, kind) if row not in told])
    return tuple(told)


def shortened(lexicon):
    """The lexicon with each kind's plain rows for the kind; NoLexicon where a word has too many."""
    return lexicon_with(lexicon, [(word, short_kinds(lexicon[0], kinds)) for word, kinds in lexicon[2]])
