"""Papers: for each question the claim that is true, with the paper by which the checker takes it."""

from wordwishes.books import parting
from wordwishes.comings import comes
from wordwishes.drawings import drawing_at, many
from wordwishes.meanings import meaning
from wordwishes.sentences import sentence


def paper_words(lexicon, words):
    """The claim that the words are a sentence or none, with its paper; NoWord."""
    name, paper = sentence(lexicon, words)
    return (("sentence" if name == "sentence" else "no sentence", lexicon, words), paper)


def paper_comes(order, one, other):
    """The claim that the one row comes to the other or not, with its paper."""
    name, paper = comes(order, one, other)
    return (("comes" if name == "comes" else "comes not", order, one, other), paper)


def paper_means(lexicon, world, words, drawing):
    """The claim of what the drawing means, with None for its paper; NoWord, NoWorld, NoDrawing."""
    return (("means", lexicon, world, words, drawing, meaning(lexicon, world, words, drawing)), None)


def paper_twofold(lexicon, words):
    """The claim that the words have two drawings, with two of them, or None; NoWord."""
    if many(lexicon, words) < 2:
        return None
    return (("twofold", lexicon, words), (drawing_at(lexicon, words, 0), drawing_at(lexicon, words, 1)))


def paper_parted(one, other, length):
    """The claim that words of up to the length part the lexicons, with its paper, or None."""
    words = parting(one, other, length)
    if words is None:
        return None
    return (("parted", one, other, words), (sentence(one, words)[1], sentence(other, words)[1]))
