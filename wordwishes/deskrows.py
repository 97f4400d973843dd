"""The rows that a desk is told: their forms, and their parts as they are read."""

from wordwishes.errors import NoRow
from wordwishes.things import is_short_word

FIGURES = "0123456789"


def name_in(text):
    """The name, or None where it is none."""
    return text if is_short_word(text) else None


def name_ahead_in(text):
    """The name ahead of a colon, or None where there is none."""
    return name_in(text[:-1]) if text.endswith(":") else None


def length_in(text):
    """The whole number of one figure, or None where it is none."""
    # isdigit would take figures beyond 0 to 9.
    return int(text) if len(text) == 1 and text in FIGURES else None


def text_in(text):
    """The text, whatever it is."""
    return text


def words_in(text):
    """The words of the text, none where it has no sign."""
    return () if text == "" else tuple(text.split(" "))


def two_texts_in(text):
    """The two texts, or None where they aren't two."""
    texts = text.split(" > ")
    return (texts[0], texts[1]) if len(texts) == 2 else None


READERS = {
    "new name": name_in,
    "name": name_in,
    "name:": name_ahead_in,
    "word": text_in,
    "length": length_in,
    "text": text_in,
    "words": words_in,
    "two texts": two_texts_in,
}

# The parts behind each first word. By a new name a lexicon is to be kept, by another one it is kept.
FORMS = {
    "lexicon": ("new name", "text"),
    "show": ("name",),
    "mirror": ("new name", "name"),
    "short": ("new name", "name"),
    "put": ("name", "word", "text"),
    "take": ("name", "word"),
    "words": ("name:", "words"),
    "many": ("name:", "words"),
    "draw": ("name:", "words"),
    "comes": ("name:", "two texts"),
    "part": ("name", "name", "length"),
    "paper": (),
}

# These are all that stands behind the blank ahead of them.
WITH_BLANKS = ("text", "words", "two texts")


class DeskRow:
    """A row that is as told: its first word, its parts as they are read, and the names by which one must be kept."""

    def __init__(self, first, parts, names):
        self.first = first
        self.parts = parts
        self.names = names


def texts_of_parts(words, form):
    """The words, those of a last part that has blanks put together again."""
    many = len(form)
    if many == 0 or form[-1] not in WITH_BLANKS or len(words) < many:
        return words
    return words[: many - 1] + [" ".join(words[many - 1 :])]


def part_in(kind, text):
    """The part as it is read, or None where it is not as told."""
    reader = READERS[kind]
    return reader(text)


def read_desk_row(row):
    """The row as it is read; NoRow where it is not as told, or is no text."""
    if not isinstance(row, str):
        raise NoRow(row)
    first, *words = row.split(" ")
    if first not in FORMS:
        raise NoRow(row)
    form = FORMS[first]
    texts = texts_of_parts(words, form)
    if len(texts) != len(form):
        raise NoRow(row)
    parts = [part_in(kind, text) for kind, text in zip(form, texts)]
    if None in parts:
        raise NoRow(row)
    return DeskRow(first, parts, [part for kind, part in zip(form, parts) if kind in ("name", "name:")])
