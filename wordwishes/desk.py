"""The desk: keeps lexicons by names, and answers rows of words with texts."""

from wordwishes.books import parting
from wordwishes.changes import mirrored, put_in, shortened, taken_out
from wordwishes.checker import holds
from wordwishes.deskrows import read_desk_row
from wordwishes.drawings import drawing_at, many
from wordwishes.errors import NoKept
from wordwishes.lexicontexts import BETWEEN_KINDS, read_lexicon, show_lexicon
from wordwishes.papers import paper_comes, paper_words
from wordwishes.rowtexts import read_row

DONE = "ok"
NOTHING = "none"


def keep_lexicon(desk, parts):
    """lexicon NAME TEXT; NoText."""
    name, text = parts
    desk.kept[name] = read_lexicon(text)
    return DONE


def show_kept(desk, parts):
    """show NAME"""
    return show_lexicon(desk.kept[parts[0]])


def keep_mirrored(desk, parts):
    """mirror NAME NAME"""
    name, source = parts
    desk.kept[name] = mirrored(desk.kept[source])
    return DONE


def keep_shortened(desk, parts):
    """short NAME NAME; NoLexicon."""
    name, source = parts
    desk.kept[name] = shortened(desk.kept[source])
    return DONE


def put_word(desk, parts):
    """put NAME WORD TEXT; NoText, then NoLexicon."""
    name, word, text = parts
    kinds = tuple([read_row(kind) for kind in text.split(BETWEEN_KINDS)])
    desk.kept[name] = put_in(desk.kept[name], word, kinds)
    return DONE


def take_word(desk, parts):
    """take NAME WORD; NoWord, then NoLexicon."""
    name, word = parts
    desk.kept[name] = taken_out(desk.kept[name], word)
    return DONE


def tell_words(desk, parts):
    """words NAME: WORDS; NoWord."""
    name, words = parts
    desk.last = paper_words(desk.kept[name], words)
    return "sentence" if desk.last[0][0] == "sentence" else NOTHING


def tell_many(desk, parts):
    """many NAME: WORDS; NoWord."""
    name, words = parts
    return str(many(desk.kept[name], words))


def show_drawing(drawing):
    """The drawing's text."""
    choice, arcs = drawing
    numbers = " ".join([str(number) for number in choice])
    return numbers + ": " + " ".join([f"{left}-{right}" for left, right in arcs])


def tell_drawing(desk, parts):
    """draw NAME: WORDS; NoWord."""
    name, words = parts
    lexicon = desk.kept[name]
    if many(lexicon, words) == 0:
        return NOTHING
    return show_drawing(drawing_at(lexicon, words, 0))


def tell_comes(desk, parts):
    """comes NAME: TEXT > TEXT; NoText."""
    name, texts = parts
    one, other = [read_row(text) for text in texts]
    desk.last = paper_comes(desk.kept[name][0], one, other)
    return "yes" if desk.last[0][0] == "comes" else "no"


def tell_parting(desk, parts):
    """part NAME NAME LENGTH"""
    one, other, length = parts
    words = parting(desk.kept[one], desk.kept[other], length)
    return NOTHING if words is None else " ".join(words)


def tell_paper(desk, parts):
    """paper"""
    if desk.last is None:
        return NOTHING
    claim, paper = desk.last
    return "holds" if holds(claim, paper) else "no"


DEEDS = {
    "lexicon": keep_lexicon,
    "show": show_kept,
    "mirror": keep_mirrored,
    "short": keep_shortened,
    "put": put_word,
    "take": take_word,
    "words": tell_words,
    "many": tell_many,
    "draw": tell_drawing,
    "comes": tell_comes,
    "part": tell_parting,
    "paper": tell_paper,
}


class Desk:
    """Lexicons kept by names, and the claim and paper of the last answer of words or comes, or None."""

    def __init__(self):
        self.kept = {}
        self.last = None

    def say(self, row):
        """The answer to the row; NoRow, then NoKept, then what its deed refuses."""
        told = read_desk_row(row)
        for name in told.names:
            if name not in self.kept:
                raise NoKept(name)
        deed = DEEDS[told.first]
        return deed(self, told.parts)
