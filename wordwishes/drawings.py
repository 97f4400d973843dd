"""All drawings of words: how many there are, each by its number, and the number of each."""

from wordwishes.arcs import is_drawing
from wordwishes.charts import chart_of, count_of_all, drawing_by_number, number_by_drawing
from wordwishes.errors import NoDrawing, NoNumber
from wordwishes.lexicons import kinds_of
from wordwishes.sentences import signs_of
from wordwishes.things import is_tuple_of, is_whole


def is_choice(lexicon, words, thing):
    """Whether the thing is a choice for the words."""
    if not is_tuple_of(thing, len(words)) or not all([is_whole(number) for number in thing]):
        return False
    return all([0 <= number < len(kinds_of(lexicon, word)) for word, number in zip(words, thing)])


def is_words_drawing(lexicon, words, thing):
    """Whether the thing is a drawing of the words."""
    return (
        is_tuple_of(thing, 2)
        and is_choice(lexicon, words, thing[0])
        and is_drawing(lexicon[0], signs_of(lexicon, words, thing[0]), thing[1])
    )


def refuse_no_drawing(lexicon, words, thing):
    """NoDrawing where the thing is no drawing of the words."""
    if not is_words_drawing(lexicon, words, thing):
        raise NoDrawing("this is no drawing of these words")


def many(lexicon, words):
    """How many drawings the words have; NoWord where a word isn't there."""
    return count_of_all(chart_of(lexicon, words))


def drawing_at(lexicon, words, number):
    """The drawing with this number; NoWord, then NoNumber where none has it."""
    chart = chart_of(lexicon, words)
    if not is_whole(number) or not 0 <= number < count_of_all(chart):
        raise NoNumber("no drawing of these words has this number")
    return drawing_by_number(chart, number)


def number_of(lexicon, words, drawing):
    """The number of the drawing; NoWord, then NoDrawing where it is none of these words."""
    chart = chart_of(lexicon, words)
    refuse_no_drawing(lexicon, words, drawing)
    return number_by_drawing(chart, drawing)
