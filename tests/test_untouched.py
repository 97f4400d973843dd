"""Nothing that is handed in is changed, and the same question has the same answer again."""

import copy
import unittest

from wordwishes import (
    arcs,
    books,
    changes,
    checker,
    comings,
    desk,
    drawings,
    learning,
    lexicons,
    lexicontexts,
    marks,
    meanings,
    papers,
    plainrows,
    rowtexts,
    sentences,
    signs,
    sortedwalks,
    walks,
    worlds,
)
from wordwishes.errors import WishError

THINGS = [
    ["a", "b"],
    [("a", "b"), ["a", "b"]],
    [["a", 0], ["b", 1]],
    (["a", "b"],),
    (("a", ["b"]),),
    ([], {}, {"a": ["b"]}),
    {"a": [("a", 0)]},
    [[[]]],
]

ORDER = (("a", "b"), ("b", "c"))
ROW = (("a", 0), ("b", 1), ("a", 0), ("c", 1))

LEXICON = (ORDER, "c", (("w", (ROW, ())), ("v", (ROW[:1],))))
WORDS = ("w", "v")
DRAWING = ((1, 0), ((0, 1),))
WORLD = ("sums", (("a", 1), ("b", 1), ("c", 1)), ((((1, 2),), ((1, 3),)), (((1, 5),),)))
TEXT = "goal c; a < b; b < c; w: a b.r a c.r | 1; v: a"

OF_ANY_THING = [
    marks.is_mark,
    marks.is_order,
    signs.is_row,
    rowtexts.read_row,
    lexicons.is_lexicon,
    lexicontexts.read_lexicon,
    lambda thing: walks.gone(ORDER, ROW, (("cancel", 0), thing)),
    lambda thing: arcs.is_drawing(ORDER, ROW, thing),
    lambda thing: drawings.drawing_at(LEXICON, WORDS, thing),
    lambda thing: drawings.number_of(LEXICON, WORDS, thing),
    lambda thing: drawings.number_of(LEXICON, WORDS, (thing, ((0, 1),))),
    lambda thing: drawings.number_of(LEXICON, WORDS, ((1, 0), thing)),
    lambda thing: sortedwalks.sorted_walk(ORDER, ROW, (("cancel", 0), thing)),
    lambda thing: worlds.is_world(LEXICON, thing),
    lambda thing: worlds.is_world(LEXICON, WORLD[:2] + (thing,)),
    lambda thing: meanings.meaning(LEXICON, thing, WORDS, DRAWING),
    lambda thing: meanings.meaning(LEXICON, WORLD, WORDS, thing),
    lambda thing: changes.mirrored_drawing(LEXICON, WORDS, thing),
    lambda thing: changes.put_in(LEXICON, thing, (ROW,)),
    lambda thing: changes.put_in(LEXICON, "w", thing),
    lambda thing: changes.put_in(LEXICON, "u", thing),
    lambda thing: changes.taken_out(LEXICON, thing),
    lambda thing: learning.learnt(LEXICON, thing, (("v",), (thing, "v")), 1),
    lambda thing: checker.holds(thing, None),
    lambda thing: checker.holds(("sentence", LEXICON, WORDS), thing),
    lambda thing: checker.holds(("sentence", LEXICON, thing), DRAWING),
    lambda thing: checker.holds(("no sentence", LEXICON, ()), ("closed", thing)),
    lambda thing: checker.holds(("comes", ORDER, ROW, ROW), thing),
    lambda thing: checker.holds(("means", LEXICON, WORLD, WORDS, DRAWING, thing), None),
    lambda thing: papers.paper_means(LEXICON, thing, WORDS, DRAWING),
    lambda thing: papers.paper_means(LEXICON, WORLD, WORDS, thing),
    lambda thing: desk.Desk().say(thing),
]

QUESTIONS = [
    lambda: marks.at_most(ORDER, "a", "c"),
    lambda: signs.leads(ORDER, ROW[0], ROW[2]),
    lambda: signs.right_wish(ROW),
    lambda: signs.left_wish(ROW),
    lambda: signs.mirror(ROW),
    lambda: rowtexts.show_row(ROW),
    lambda: rowtexts.read_row("a b.r a c.r"),
    lambda: lexicons.kinds_of(LEXICON, "w"),
    lambda: lexicons.marks_of(LEXICON),
    lambda: lexicontexts.show_lexicon(LEXICON),
    lambda: lexicontexts.read_lexicon(TEXT),
    lambda: walks.gone(ORDER, ROW, (("cancel", 0),)),
    lambda: walks.cancels_in(ORDER, ROW),
    lambda: arcs.drawing_of(ORDER, ROW),
    lambda: arcs.ways(ORDER, ROW),
    lambda: arcs.why_not(ORDER, ROW),
    lambda: arcs.why_not(ORDER, ROW[1:3]),
    lambda: sentences.signs_of(LEXICON, WORDS, (0, 0)),
    lambda: sentences.sentence(LEXICON, WORDS),
    lambda: sentences.sentence(LEXICON, ("v", "v")),
    lambda: sentences.sentence(LEXICON, ("v", "w", "w", "v")),
    lambda: drawings.many(LEXICON, WORDS),
    lambda: drawings.drawing_at(LEXICON, WORDS, 0),
    lambda: drawings.number_of(LEXICON, WORDS, DRAWING),
    lambda: comings.comes(ORDER, ROW, ROW[1:3]),
    lambda: comings.comes(ORDER, ROW, ROW[:2]),
    lambda: sortedwalks.sorted_walk(ORDER, ROW, (("grow", 0, ("a", 1), ("b", 0)), ("cancel", 2))),
    lambda: plainrows.plain_rows(ORDER, ROW),
    lambda: plainrows.plain_rows(ORDER, ROW[1:3]),
    lambda: worlds.is_world(LEXICON, WORLD),
    lambda: meanings.meaning(LEXICON, WORLD, WORDS, DRAWING),
    lambda: changes.mirrored(LEXICON),
    lambda: changes.mirrored_drawing(LEXICON, WORDS, DRAWING),
    lambda: changes.put_in(LEXICON, "u", (ROW,)),
    lambda: changes.put_in(LEXICON, "w", (ROW,)),
    lambda: changes.taken_out(LEXICON, "w"),
    lambda: changes.shortened(LEXICON),
    lambda: books.sentences_of(LEXICON, 2),
    lambda: books.sentences_of(LEXICON, 0),
    lambda: books.parting(LEXICON, LEXICON[:2] + (LEXICON[2][:1] + (("v", ((),)),),), 2),
    lambda: learning.learnt(LEXICON, "u", (("u",), ("w", "u")), 1),
    lambda: learning.learnt(LEXICON, "u", (("u", "u"),), 0),
    lambda: checker.holds(("sentence", LEXICON, WORDS), DRAWING),
    lambda: papers.paper_words(LEXICON, WORDS),
    lambda: papers.paper_words(LEXICON, ("v", "w", "w", "v")),
    lambda: papers.paper_comes(ORDER, ROW, ROW[:2]),
    lambda: papers.paper_comes(ORDER, ROW, ROW[1:3]),
    lambda: papers.paper_means(LEXICON, WORLD, WORDS, DRAWING),
    lambda: papers.paper_twofold(LEXICON, WORDS),
    lambda: papers.paper_parted(LEXICON, LEXICON[:2] + (LEXICON[2][:1] + (("v", ((),)),),), 2),
]


def answer(question, *things):
    try:
        return question(*things)
    except WishError as error:
        return error.__class__


def spoil(told):
    """Changes every list and dict in what was told."""
    if isinstance(told, (list, tuple)):
        for part in told:
            spoil(part)
    if isinstance(told, list):
        told.append("spoilt")
    if isinstance(told, dict):
        told["spoilt"] = "spoilt"


class UntouchedTest(unittest.TestCase):
    def test_things_that_are_handed_in_stay_as_they_are(self):
        for question in OF_ANY_THING:
            for thing in THINGS:
                with self.subTest(question=question, thing=thing):
                    before = copy.deepcopy(thing)
                    first = answer(question, thing)
                    self.assertEqual(thing, before)
                    self.assertEqual(answer(question, thing), first)

    def test_what_is_told_is_the_askers_own(self):
        for number, question in enumerate(QUESTIONS):
            with self.subTest(number):
                told = question()
                kept = copy.deepcopy(told)
                spoil(told)
                self.assertEqual(question(), kept)


if __name__ == "__main__":
    unittest.main()
