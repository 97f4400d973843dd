"""What a thing of any kind is: questions that several modules ask."""

SMALL_LETTERS = "abcdefghijklmnopqrstuvwxyz"
MOST_LETTERS = 8


def is_whole(thing):
    """Whether the thing is a whole number; truths are none."""
    return isinstance(thing, int) and not isinstance(thing, bool)


def is_tuple_of(thing, many):
    """Whether the thing is a tuple of so many parts."""
    return isinstance(thing, tuple) and len(thing) == many


def is_short_word(thing):
    """Whether the thing is a text of one to eight small letters."""
    # islower and isalpha would take letters beyond a to z.
    return (
        isinstance(thing, str)
        and 1 <= len(thing) <= MOST_LETTERS
        and all([letter in SMALL_LETTERS for letter in thing])
    )
