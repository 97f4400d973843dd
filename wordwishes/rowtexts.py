"""Rows as texts: how they are written and read."""

from wordwishes.errors import NoText
from wordwishes.signs import is_row

NO_SIGNS = "1"


def show_sign(sign):
    """The sign's text."""
    mark, turn = sign
    if turn > 0:
        return mark + "." + "r" * turn
    if turn < 0:
        return mark + "." + "l" * -turn
    return mark


def show_row(row):
    """The row's text."""
    if len(row) == 0:
        return NO_SIGNS
    return " ".join([show_sign(sign) for sign in row])


def turn_in(letters):
    """The turn that is written so behind a dot, or None."""
    many = len(letters)
    if many > 0 and letters.count("r") == many:
        return many
    if many > 0 and letters.count("l") == many:
        return -many
    return None


def sign_in(text):
    """What the text tells as a sign; where it is written otherwise, this is no sign."""
    halves = text.split(".")
    if len(halves) == 1:
        return (text, 0)
    if len(halves) == 2:
        return (halves[0], turn_in(halves[1]))
    return None


def row_in(text):
    """The row that the text tells, or None where it is written otherwise."""
    if text == NO_SIGNS:
        return ()
    row = tuple([sign_in(part) for part in text.split(" ")])
    return row if is_row(row) else None


def read_row(text):
    """The row that the text tells; NoText where it is written otherwise, or is no text."""
    row = row_in(text) if isinstance(text, str) else None
    if row is None:
        raise NoText(None)
    return row
