"""Things of many kinds, none of them a text, a tuple or a whole number."""


class Odd:
    """A thing of a kind that the program doesn't know."""


class AlikeToAll:
    """A thing that says of itself that it is whatever it is compared with."""

    def __eq__(self, other):
        return True

    def __hash__(self):
        return 0


def odd_things():
    """They are made anew, so that no test meets what another one has changed."""
    return [
        None,
        True,
        False,
        b"",
        b"a",
        [],
        ["a"],
        [("a", 0)],
        [("a", "b")],
        {},
        {"a": 0},
        {("a", 0): True},
        {"a"},
        frozenset(["a"]),
        range(3),
        len,
        int,
        ValueError("a"),
        Odd(),
        AlikeToAll(),
        [[]],
        [None],
    ]


NUMBERS = [0, 1, 2, -1, 99, 10**40]
TEXTS = ["", "a", "ab", "1", "a.r", "goal a", "\n", " ", "~"]
TUPLES = [(), (None,), ("a",), ("a", 0), (0, 1), ((),), (("a",),), (("a", 0, 0),), ((), ()), ([],)]
