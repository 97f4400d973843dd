"""Lexicons as texts: how they are written and read."""

from wordwishes.errors import NoText
from wordwishes.lexicons import are_entries
from wordwishes.marks import is_mark, is_order
from wordwishes.rowtexts import row_in, show_row

BETWEEN_PARTS = "; "
BETWEEN_PAIR = " < "
BEHIND_WORD = ": "
BETWEEN_KINDS = " | "


def show_entry(entry):
    """The entry's part."""
    word, kinds = entry
    return word + BEHIND_WORD + BETWEEN_KINDS.join([show_row(kind) for kind in kinds])


def show_lexicon(lexicon):
    """The lexicon's text."""
    order, goal, entries = lexicon
    pairs = [low + BETWEEN_PAIR + high for low, high in order]
    return BETWEEN_PARTS.join(["goal " + goal] + pairs + [show_entry(entry) for entry in entries])


def goal_in(part):
    """The mark of the goal's part, or None where it is written otherwise."""
    words = part.split(" ")
    if len(words) == 2 and words[0] == "goal" and is_mark(words[1]):
        return words[1]
    return None


def pair_in(part):
    """What the part tells as a pair; where it is written otherwise, this is no pair."""
    return tuple(part.split(BETWEEN_PAIR))


def entry_in(part):
    """What the part tells as an entry; where it is written otherwise, this is no entry."""
    halves = part.split(BEHIND_WORD)
    if len(halves) != 2:
        return None
    return (halves[0], tuple([row_in(text) for text in halves[1].split(BETWEEN_KINDS)]))


def read_lexicon(text):
    """The lexicon that the text tells; NoText where it is written otherwise, or is no text."""
    if not isinstance(text, str):
        raise NoText(None)
    parts = text.split(BETWEEN_PARTS)
    goal = goal_in(parts[0])
    if goal is None:
        raise NoText(0)
    order = ()
    entries = ()
    for number, part in enumerate(parts[1:], start=1):
        longer_order = order + (pair_in(part),)
        more_entries = entries + (entry_in(part),)
        if entries == () and is_order(longer_order):
            order = longer_order
        elif are_entries(more_entries):
            entries = more_entries
        else:
            raise NoText(number)
    if entries == ():
        raise NoText(None)
    return (order, goal, entries)
