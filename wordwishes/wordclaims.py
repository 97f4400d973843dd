"""What the checker asks of words: their drawings, and whether a paper shows that they are no sentence."""

from wordwishes.arcs import is_drawing, surplus
from wordwishes.closings import Ground, is_closed, put_sign
from wordwishes.lexicons import has_word, is_lexicon, kinds_of
from wordwishes.marks import hanging_with, is_mark
from wordwishes.things import is_tuple_called, is_tuple_of, is_whole

MOST_WORDS = 8
MOST_SIGNS_OF_WORDS = 60


def are_words_taken(lexicon, words):
    """Whether the things are a lexicon and words of it, no more of them and of their signs than the checker takes."""
    if not is_lexicon(lexicon) or not isinstance(words, tuple) or len(words) > MOST_WORDS:
        return False
    if not all([has_word(lexicon, word) for word in words]):
        return False
    return sum([len(kind) for word in words for kind in kinds_of(lexicon, word)]) <= MOST_SIGNS_OF_WORDS


def kinds_in_turn(lexicon, words):
    """The kinds of each word, and of the goal's wish as one word more."""
    return [kinds_of(lexicon, word) for word in words] + [(((lexicon[1], 1),),)]


def is_number_below(thing, many):
    """Whether the thing is a whole number from 0 to below so many."""
    return is_whole(thing) and 0 <= thing < many


def is_choice_of(kinds, thing):
    """Whether the thing is a tuple of a number for each word, each that of one of its kinds."""
    return is_tuple_of(thing, len(kinds)) and all(
        [is_number_below(number, len(rows)) for number, rows in zip(thing, kinds)]
    )


def row_of_choice(lexicon, words, choice):
    """The signs of the kinds that are chosen, in turn, the goal's wish behind them."""
    numbers = choice + (0,)
    kinds = kinds_in_turn(lexicon, words)
    return tuple([sign for number, rows in zip(numbers, kinds) for sign in rows[number]])


def is_drawing_of_words(lexicon, words, thing):
    """Whether the thing is a drawing of the words."""
    if not is_tuple_of(thing, 2) or not is_choice_of(kinds_in_turn(lexicon, words)[:-1], thing[0]):
        return False
    return is_drawing(lexicon[0], row_of_choice(lexicon, words, thing[0]), thing[1])


def is_place_among(kinds, thing):
    """Whether the thing is a place (w, k, p) in one of the kinds."""
    return (
        is_tuple_of(thing, 3)
        and is_number_below(thing[0], len(kinds))
        and is_number_below(thing[1], len(kinds[thing[0]]))
        and is_number_below(thing[2], len(kinds[thing[0]][thing[1]]) + 1)
    )


def is_pair_among(kinds, thing):
    """Whether the thing is a pair of places in the kinds."""
    return is_tuple_of(thing, 2) and is_place_among(kinds, thing[0]) and is_place_among(kinds, thing[1])


def pairs_to_next_words(kinds):
    """The end of each kind with the begin of each kind of the next word."""
    return [
        ((word, kind, len(row)), (word + 1, onward, 0))
        for word, rows in enumerate(kinds[:-1])
        for kind, row in enumerate(rows)
        for onward in range(len(kinds[word + 1]))
    ]


def ground_of_kinds(kinds):
    """The places of the kinds, with their signs between them."""
    numbered = [(word, kind, row) for word, rows in enumerate(kinds) for kind, row in enumerate(rows)]
    places = [(word, kind, at) for word, kind, row in numbered for at in range(len(row) + 1)]
    wholly = [((0, kind, 0), (len(kinds) - 1, 0, 1)) for kind in range(len(kinds[0]))]
    ground = Ground([(place, place) for place in places] + pairs_to_next_words(kinds), wholly)
    for word, kind, row in numbered:
        for at, sign in enumerate(row):
            put_sign(ground, sign, (word, kind, at), (word, kind, at + 1))
    return ground


def are_pairs_against_words(order, kinds, thing):
    """Whether the thing is a tuple of pairs, closed, that shows that the words are no sentence."""
    return (
        isinstance(thing, tuple)
        and all([is_pair_among(kinds, pair) for pair in thing])
        and is_closed(order, ground_of_kinds(kinds), thing)
    )


def is_even_by_no_choice(order, kinds, mark):
    """Whether no choice has as many even turns as odd ones, of the signs that hang together with the mark."""
    hanging = hanging_with(order, mark)
    totals = [0]
    # Totals that are alike are kept once, so that far fewer are gone through than choices.
    for rows in kinds:
        totals = sorted(set([total + surplus(hanging, row) for total in totals for row in rows]))
    return 0 not in totals


def is_paper_against_words(lexicon, words, thing):
    """Whether the thing is a paper that shows that the words are no sentence."""
    order = lexicon[0]
    kinds = kinds_in_turn(lexicon, words)
    if is_tuple_called(thing, "counted", 2):
        return is_mark(thing[1]) and is_even_by_no_choice(order, kinds, thing[1])
    return is_tuple_called(thing, "closed", 2) and are_pairs_against_words(order, kinds, thing[1])
