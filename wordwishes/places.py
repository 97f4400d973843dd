"""Words as places between the signs of their kinds, the goal's wish one word more behind them."""

from wordwishes.lexicons import kinds_of

# Ahead of all words there is one without signs, so that the first word's kind is chosen like any other.
START = (-1, 0, 0)


def goals_wish(lexicon):
    """The row of the one sign that stands behind the signs of all words."""
    return ((lexicon[1], 1),)


def kinds_by_number(lexicon, words):
    """The kinds of each word by its number, and of what stands ahead of them and behind; NoWord as by kinds_of."""
    kinds = {START[0]: ((),)}
    for number, word in enumerate(words):
        kinds[number] = kinds_of(lexicon, word)
    kinds[len(words)] = (goals_wish(lexicon),)
    return kinds


def places_of(kinds):
    """All places, rising."""
    return [
        (number, kind, at)
        for number, rows in kinds.items()
        for kind, row in enumerate(rows)
        for at in range(len(row) + 1)
    ]


def last_place(kinds):
    """The end of the goal's wish."""
    return (max(list(kinds)), 0, 1)


def sign_behind(kinds, place):
    """The sign behind the place, or None at its kind's end."""
    number, kind, at = place
    row = kinds[number][kind]
    return row[at] if at < len(row) else None


def next_place(place):
    """The place behind the sign that is behind this place."""
    number, kind, at = place
    return (number, kind, at + 1)


def begins_behind(kinds, place):
    """The begins of the kinds of the next word."""
    number = place[0] + 1
    return [(number, kind, 0) for kind in range(len(kinds.get(number, ())))]


def places_of_signs(kinds, choice):
    """The places ahead of the signs of the choice, and of the goal's wish, in the signs' order."""
    numbers = list(choice) + [0]
    return [(number, kind, at) for number, kind in enumerate(numbers) for at in range(len(kinds[number][kind]))]
