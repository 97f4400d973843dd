"""Things of many kinds, and things bent in one place."""


class Odd:
    """A thing of a kind that the program doesn't know."""


class AlikeToAll:
    """A thing that says of itself that it is whatever it is compared with."""

    def __eq__(self, other):
        return True

    def __hash__(self):
        return 0


class Silent:
    """A thing that lets itself be neither compared, nor shown, nor counted."""

    def refuse(self, *things):
        raise RuntimeError("this thing is not to be asked")

    __eq__ = __ne__ = __lt__ = __gt__ = __hash__ = __repr__ = __str__ = __bool__ = __len__ = __iter__ = refuse


def deep(thing, depth):
    """The thing within so many tuples."""
    for time in range(depth):
        thing = (thing,)
    return thing


def unshown_things():
    """None of them is a word, and none can be shown: numbers of very many figures, and what bears such."""
    far = 10**5000
    return [far, -far, (far,), ("w", far), [far], {"w": far}, (("w", ((far,),)),), deep(far, 90), Silent(), (Silent(),)]


def odd_things():
    """None of them is a text, a tuple or a whole number.

    They are made anew, so that no test meets what another one has changed.
    """
    return [
        None,
        True,
        False,
        b"",
        b"a",
        [],
        ["a"],
        [("a", 0)],
        [("a", "b")],
        {},
        {"a": 0},
        {("a", 0): True},
        {"a"},
        frozenset(["a"]),
        range(3),
        len,
        int,
        ValueError("a"),
        Odd(),
        AlikeToAll(),
        [[]],
        [None],
    ]


NUMBERS = [0, 1, 2, -1, 99, 10**40]
TEXTS = ["", "a", "ab", "1", "a.r", "goal a", "\n", " ", "~"]
TUPLES = [(), (None,), ("a",), ("a", 0), (0, 1), ((),), (("a",),), (("a", 0, 0),), ((), ()), ([],)]


def bent_number(number):
    told = [number + 1, number - 1, -number, number + 10**30, str(number), (number,), [number]]
    return told + ([bool(number)] if number in [0, 1] else [])


def bent_text(text):
    return [text + "x", "x" + text, text[1:], text[:-1], text[:-1] + "z", text.upper(), "", (text,), [text], {text: 0}]


def bent_tuple(parts):
    """Parts left out, twice, put in, turned about, and each part bent."""
    told = [list(parts), dict(enumerate(parts)), (parts,), (), parts + (None,), parts + ((),), parts[::-1]]
    for at, part in enumerate(parts):
        told.append(parts[:at] + parts[at + 1 :])
        told.append(parts[: at + 1] + parts[at:])
        told.append(parts[:at] + parts[at + 1 : at + 2] + (part,) + parts[at + 2 :])
        told.extend([parts[:at] + (other,) + parts[at + 1 :] for other in bent(part)])
    return told


def bent(thing):
    """Things that are like this one but in one place, at any depth; perhaps alike to it."""
    told = odd_things() + [0, 1, -1, "", "a", (), (0,), (0, 1)]
    if isinstance(thing, bool):
        return told + [int(thing), not thing]
    if isinstance(thing, int):
        return told + bent_number(thing)
    if isinstance(thing, str):
        return told + bent_text(thing)
    return told + bent_tuple(thing) if isinstance(thing, tuple) else told
