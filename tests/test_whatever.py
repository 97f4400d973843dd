"""Whatever is handed in where the document says so is answered or refused, never ends in another error."""

import unittest

from tests.things import unshown_things
from wordwishes import (
    arcs,
    drawings,
    lexicons,
    lexicontexts,
    marks,
    meanings,
    rowtexts,
    signs,
    sortedwalks,
    walks,
    worlds,
)
from wordwishes.changes import mirrored_drawing
from wordwishes.errors import NoDrawing, NoNumber, NoStep, NoText, NoWorld

ORDER = (("a", "b"),)
ROW = (("a", 0), ("b", 1))
LEXICON = (ORDER, "b", (("w", ((), ROW)), ("v", (ROW[:1],))))
WORDS = ("w", "v")
DRAWING = ((0, 0), ((0, 1),))
WORLD = ("sums", (("a", 1), ("b", 1)), ((((1, 2),), ((1, 3),)), (((1, 5),),)))

ANSWERED = [
    marks.is_mark,
    marks.is_order,
    lambda thing: marks.is_order((("a", thing),)),
    signs.is_row,
    lambda thing: signs.is_row((("a", thing),)),
    lexicons.is_lexicon,
    lambda thing: lexicons.is_lexicon(LEXICON[:2] + (thing,)),
    lambda thing: lexicons.is_lexicon(LEXICON[:2] + (LEXICON[2] + ((thing, (ROW,)),),)),
    lambda thing: lexicons.is_lexicon(LEXICON[:2] + (LEXICON[2] + (("u", (thing,)),),)),
    lambda thing: arcs.is_drawing(ORDER, ROW, thing),
    lambda thing: arcs.is_drawing(ORDER, ROW, ((0, thing),)),
    lambda thing: worlds.is_world(LEXICON, thing),
    lambda thing: worlds.is_world(LEXICON, WORLD[:2] + (thing,)),
    lambda thing: worlds.is_world(LEXICON, WORLD[:1] + ((("a", 1), ("b", thing)),) + WORLD[2:]),
    lambda thing: worlds.is_world(LEXICON, WORLD[:2] + ((((thing,), ((1, 3),)), (((1, 5),),)),)),
]

REFUSED = [
    (NoText, rowtexts.read_row),
    (NoText, lexicontexts.read_lexicon),
    (NoStep, lambda thing: walks.gone(ORDER, ROW, (thing,))),
    (NoStep, lambda thing: walks.gone(ORDER, ROW, (("cancel", thing),))),
    (NoStep, lambda thing: walks.gone(ORDER, ROW, (("order", 0, thing),))),
    (NoStep, lambda thing: walks.gone(ORDER, ROW, (("grow", 0, thing, ("a", 0)),))),
    (NoStep, lambda thing: sortedwalks.sorted_walk(ORDER, ROW, (("cancel", 0), thing))),
    (NoNumber, lambda thing: drawings.drawing_at(LEXICON, WORDS, thing)),
    (NoDrawing, lambda thing: drawings.number_of(LEXICON, WORDS, thing)),
    (NoDrawing, lambda thing: drawings.number_of(LEXICON, WORDS, (thing, DRAWING[1]))),
    (NoDrawing, lambda thing: drawings.number_of(LEXICON, WORDS, (DRAWING[0], thing))),
    (NoWorld, lambda thing: meanings.meaning(LEXICON, thing, WORDS, DRAWING)),
    (NoDrawing, lambda thing: meanings.meaning(LEXICON, WORLD, WORDS, thing)),
    (NoDrawing, lambda thing: mirrored_drawing(LEXICON, WORDS, thing)),
]


class WhateverTest(unittest.TestCase):
    def test_what_all_else_is_right_with(self):
        self.assertEqual(meanings.meaning(LEXICON, WORLD, WORDS, DRAWING), ((1, 10),))

    def test_questions_are_answered(self):
        for number, question in enumerate(ANSWERED):
            for thing in unshown_things():
                with self.subTest(number):
                    self.assertIs(question(thing), False)

    def test_what_is_none_is_refused(self):
        for number, (refusal, question) in enumerate(REFUSED):
            for thing in unshown_things():
                with self.subTest(number):
                    with self.assertRaises(refusal):
                        question(thing)


if __name__ == "__main__":
    unittest.main()
