"""What a thing of any kind is: questions that several modules ask."""

SMALL_LETTERS = "abcdefghijklmnopqrstuvwxyz"
MOST_LETTERS = 8


def is_whole(thing):
    """Whether the thing is a whole number; truths are none."""
    return isinstance(thing, int) and not isinstance(thing, bool)


def is_tuple_of(thing, many):
    """Whether the thing is a tuple of so many parts."""
    return isinstance(thing, tuple) and len(thing) == many


def is_tuple_called(thing, name, many):
    """Whether the thing is a tuple of so many parts, this text ahead."""
    return is_tuple_of(thing, many) and are_alike(thing[0], name)


def is_short_word(thing):
    """Whether the thing is a text of one to eight small letters."""
    # islower and isalpha would take letters beyond a to z.
    return (
        isinstance(thing, str)
        and 1 <= len(thing) <= MOST_LETTERS
        and all([letter in SMALL_LETTERS for letter in thing])
    )


def are_alike(one, other):
    """Whether two things of any kind are alike; a text is so to a text alone."""
    if isinstance(one, str) or isinstance(other, str):
        # A thing of another kind may call itself alike to any text.
        return isinstance(one, str) and isinstance(other, str) and one == other
    return one in (other,)


def tuples_of(parts, length):
    """All tuples of so many of the parts, sorted where the parts are."""
    told = [()]
    for place in range(length):
        told = [longer + (part,) for longer in told for part in parts]
    return told
