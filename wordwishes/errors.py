"""The refusals of the program.

Their words show nothing of what was handed in: not every thing can be shown (a whole number may have too many
figures for it), and no refusal is to end in another error.
"""


class WishError(ValueError):
    """Any refusal."""


class NoText(WishError):
    """What is written otherwise than a row or a lexicon, or is no text."""

    def __init__(self, part):
        WishError.__init__(self, "this is not written as it is to be")
        self.part = part


class NoStep(WishError):
    """A walk with a step that can't be gone."""

    def __init__(self, number):
        WishError.__init__(self, "a step of the walk can't be gone")
        self.number = number


class NoWord(WishError):
    """A word that the lexicon doesn't have."""

    def __init__(self, word):
        WishError.__init__(self, "the lexicon doesn't have this word")
        self.word = word


class NoNumber(WishError):
    """A number that no drawing has."""


class NoDrawing(WishError):
    """What is no drawing of these words."""


class NoWorld(WishError):
    """What is no world for this lexicon."""


class NoLexicon(WishError):
    """What comes to be no lexicon."""


class NoRow(WishError):
    """A row that the desk doesn't know."""

    def __init__(self, row):
        WishError.__init__(self, "the desk knows no such row")
        self.row = row


class NoKept(WishError):
    """A name by which no lexicon is kept."""

    def __init__(self, name):
        WishError.__init__(self, "no lexicon is kept by this name")
        self.name = name
