import random
import re
import unittest

from tests.things import NUMBERS, TUPLES, odd_things, unshown_things
from tests.trials import chance_lexicon
from wordwishes.books import parting
from wordwishes.changes import mirrored, put_in, shortened, taken_out
from wordwishes.comings import comes
from wordwishes.desk import Desk
from wordwishes.drawings import drawing_at, many
from wordwishes.errors import NoKept, NoLexicon, NoRow, NoText, NoWord, WishError
from wordwishes.lexicontexts import read_lexicon, show_lexicon
from wordwishes.rowtexts import show_row
from wordwishes.sentences import sentence

SMALL = "goal s; n < np; john: n | np; runs: np.r s; oh: 1"
OTHER = "goal s; n < np; john: n; runs: s np.l; up: s s.l s"

# A right row of each kind, and of each form of it.
RIGHT = [
    "lexicon new " + SMALL,
    "lexicon one goal a; b: a",
    "show one",
    "mirror one other",
    "mirror new one",
    "short one one",
    "short new other",
    "put one john n",
    "put one mary n | 1 | n.r s",
    "take one oh",
    "words one: john runs",
    "words one: oh",
    "words one: ",
    "many one: john runs",
    "many one: ",
    "draw one: john oh runs",
    "draw one: ",
    "comes one: n > np",
    "comes one: 1 > np.r n n",
    "part one other 2",
    "part one one 0",
    "paper",
]

NAME = "[a-z]{1,8}"
PATTERNS = [
    f"lexicon {NAME} .*",
    f"show {NAME}",
    f"(mirror|short) {NAME} {NAME}",
    f"put {NAME} [^ ]* .*",
    f"take {NAME} [^ ]*",
    f"(words|many|draw) {NAME}: .*",
    f"comes {NAME}: .*",
    f"part {NAME} {NAME} [0-9]",
    "paper",
]


def is_row_by_hand(row):
    """What the document says of rows, by patterns."""
    if not any([re.fullmatch(pattern, row, re.DOTALL) for pattern in PATTERNS]):
        return False
    if not row.startswith("comes "):
        return True
    behind = row.split(" ", 2)[2]
    found = behind.find(" > ")
    return found >= 0 and behind.find(" > ", found + 3) < 0


def desk_with(**texts):
    desk = Desk()
    for name, text in texts.items():
        if desk.say(f"lexicon {name} {text}") != "ok":
            raise AssertionError(name)
    return desk


class Looks:
    def setUp(self):
        self.desk = desk_with(one=SMALL, other=OTHER)

    def says(self, row, right):
        told = self.desk.say(row)
        self.assertIsInstance(told, str)
        self.assertEqual(told, right, row)

    def state(self):
        """All that can be asked of the desk."""
        told = [self.desk.say("paper")]
        for name in ["one", "other", "new", "a", "b"]:
            try:
                told.append(self.desk.say("show " + name))
            except NoKept as refusal:
                told.append(refusal.name)
        return told

    def refused(self, error, row):
        """The refusal, behind which all is as it was."""
        before = self.state()
        with self.assertRaises(error, msg=row) as caught:
            self.desk.say(row)
        self.assertEqual(self.state(), before)
        return caught.exception

    def no_row(self, row):
        self.assertEqual(self.refused(NoRow, row).row, row)


class RowsTest(Looks, unittest.TestCase):
    def test_lexicon_and_show(self):
        self.says("show one", SMALL)
        self.says("show other", OTHER)
        self.says("lexicon abcdefgh goal a; b: a", "ok")
        self.says("show abcdefgh", "goal a; b: a")

    def test_a_name_kept_anew(self):
        self.says("lexicon one goal a; b: a", "ok")
        self.says("show one", "goal a; b: a")
        self.says("show other", OTHER)

    def test_mirror(self):
        self.says("mirror new one", "ok")
        self.says("show new", "goal s; n < np; john: n | np; runs: s np.l; oh: 1")
        self.says("show one", SMALL)
        self.says("mirror one one", "ok")
        self.says("show one", "goal s; n < np; john: n | np; runs: s np.l; oh: 1")
        self.says("mirror one one", "ok")
        self.says("show one", SMALL)
        self.says("mirror one other", "ok")
        self.says("show one", show_lexicon(mirrored(read_lexicon(OTHER))))
        self.says("show other", OTHER)

    def test_short(self):
        self.says("short new other", "ok")
        self.says("show new", "goal s; n < np; john: n; runs: s np.l; up: s")
        self.says("show other", OTHER)
        self.says("put other up s s.l s | n n.r n.rr | n", "ok")
        self.says("short other other", "ok")
        self.says("show other", "goal s; n < np; john: n; runs: s np.l; up: s | n | n.rr")
        self.says("short one other", "ok")
        self.says("show one", self.desk.say("show other"))

    def test_put(self):
        self.says("put one mary n", "ok")
        self.says("show one", SMALL + "; mary: n")
        self.says("put one john 1 | n.l s n.rr", "ok")
        self.says("show one", "goal s; n < np; john: 1 | n.l s n.rr; runs: np.r s; oh: 1; mary: n")

    def test_take(self):
        self.says("take one john", "ok")
        self.says("take one oh", "ok")
        self.says("show one", "goal s; n < np; runs: np.r s")

    def test_words(self):
        for words in ["john runs", "oh john oh runs oh"]:
            self.says("words one: " + words, "sentence")
        for words in ["john", "runs john", ""]:
            self.says("words one: " + words, "none")

    def test_many(self):
        self.says("many one: john runs", "2")
        self.says("many one: runs john", "0")
        self.says("many one: ", "0")
        self.says("lexicon a goal s; w: s | s s.l | 1", "ok")
        self.says("many a: w w w w w w w w", str(many(read_lexicon("goal s; w: s | s s.l | 1"), ("w",) * 8)))

    def test_draw(self):
        self.says("draw one: john", "none")
        self.says("draw one: ", "none")
        self.says("lexicon a goal s; w: s", "ok")
        self.says("draw a: w", "0: 0-1")
        self.says("lexicon a goal s; v: n s | 1; w: n.r | n.r s; x: n | n.l s.rr s.r", "ok")
        lexicon = read_lexicon("goal s; v: n s | 1; w: n.r | n.r s; x: n | n.l s.rr s.r")
        for words in [("x", "w"), ("v", "x", "w", "v"), ("x", "v", "w")]:
            choice, arcs = drawing_at(lexicon, words, 0)
            right = " ".join(map(str, choice)) + ": " + " ".join([f"{i}-{j}" for i, j in arcs])
            self.assertRegex(right, "^[0-9]( [0-9])*: [0-9]+-[0-9]+( [0-9]+-[0-9]+)*$")
            self.says("draw a: " + " ".join(words), right)

    def test_draw_tells_the_drawing_with_the_number_0(self):
        for text, words in [(SMALL, "john oh runs"), ("goal s; w: s | s s.l | 1", "w w w")]:
            self.says("lexicon a " + text, "ok")
            lexicon = read_lexicon(text)
            row = tuple(words.split(" "))
            texts = []
            for number in range(many(lexicon, row)):
                choice, arcs = drawing_at(lexicon, row, number)
                texts.append(" ".join(map(str, choice)) + ": " + " ".join([f"{i}-{j}" for i, j in arcs]))
            self.assertGreater(len(set(texts)), 1)
            self.says("draw a: " + words, texts[0])

    def test_draw_with_numbers_of_two_figures(self):
        self.says("lexicon a goal s; w: s n n.r n n.r", "ok")
        self.says("lexicon b goal s; w: s n n.r n n.r; v: s.r", "ok")
        self.says("draw b: w v w", "0 0 0: 0-5 1-2 3-4 6-11 7-8 9-10")

    def test_comes(self):
        self.says("comes one: n > np", "yes")
        self.says("comes one: np > n", "no")
        self.says("comes one: 1 > 1", "yes")
        self.says("comes one: n np.r > x.r x", "yes")
        # It is the order of that lexicon.
        self.says("lexicon a goal s; np < n; b: 1", "ok")
        self.says("comes a: n > np", "no")
        self.says("comes a: np > n", "yes")

    def test_part(self):
        self.says("part one other 0", "none")
        self.says("part one other 1", "none")
        self.says("part one other 2", "john runs")
        self.says("part other one 4", "john runs")
        self.says("part one one 3", "none")
        self.says("mirror one one", "ok")
        self.says("part one other 4", "none")
        self.says("part other one 4", "none")

    def test_part_with_one_word(self):
        self.says("lexicon a goal s; b: s; a: n", "ok")
        self.says("lexicon b goal n; a: n; b: s", "ok")
        self.says("part a b 1", "a")
        self.says("part a b 9", "a")

    def test_by_chance(self):
        chance = random.Random(25)
        for time in range(60):
            one, other = [chance_lexicon(chance, 2, 2, 2, "ab", (0, 1)) for name in "12"]
            self.says("lexicon a " + show_lexicon(one), "ok")
            self.says("lexicon b " + show_lexicon(other), "ok")
            words = tuple([chance.choice("ab") for at in range(chance.randrange(4))])
            self.says("words a: " + " ".join(words), "sentence" if sentence(one, words)[0] == "sentence" else "none")
            self.says("paper", "holds")
            self.says("many a: " + " ".join(words), str(many(one, words)))
            rows = [one[2][0][1][0], other[2][0][1][0]]
            right = "yes" if comes(one[0], *rows)[0] == "comes" else "no"
            self.says(f"comes a: {show_row(rows[0])} > {show_row(rows[1])}", right)
            self.says("paper", "holds")
            parted = parting(one, other, 3)
            self.says("part a b 3", "none" if parted is None else " ".join(parted))
            self.says("put a w a | 1", "ok")
            self.says("show a", show_lexicon(put_in(one, "w", ((("a", 0),), ()))))
            self.says("take a a", "ok")
            self.says("show a", show_lexicon(taken_out(put_in(one, "w", ((("a", 0),), ())), "a")))
            self.says("short b b", "ok")
            self.says("show b", show_lexicon(shortened(other)))

    def test_two_desks_know_nothing_of_one_another(self):
        second = desk_with(one=OTHER)
        self.says("words one: john runs", "sentence")
        self.assertEqual(second.say("paper"), "none")
        self.assertEqual(second.say("show one"), OTHER)
        with self.assertRaises(NoKept):
            second.say("show other")
        second.say("take one john")
        second.say("comes one: 1 > 1")
        self.says("show one", SMALL)
        with self.assertRaises(NoKept):
            Desk().say("show one")


class PaperTest(Looks, unittest.TestCase):
    def test_ahead_of_all(self):
        self.assertEqual(Desk().say("paper"), "none")
        self.says("paper", "none")

    def test_behind_other_rows_alone(self):
        for row in ["many one: john runs", "draw one: john runs", "part one other 2", "show one", "mirror a one"]:
            self.desk.say(row)
            self.says("paper", "none")

    def test_behind_words_and_comes(self):
        for row in ["words one: john runs", "words one: john", "words one: ", "comes one: n > np", "comes one: np > n"]:
            self.desk.say(row)
            self.says("paper", "holds")
            self.says("paper", "holds")

    def test_behind_refused_rows(self):
        for row in ["words one: x", "words b: john", "comes one: n > .", "comes b: n > n", "words one:", "nothing"]:
            with self.assertRaises(WishError):
                self.desk.say(row)
            self.says("paper", "none")
        self.desk.say("words one: john runs")
        for row in ["words one: x", "comes one: n > .", "paper ", "lexicon one goal"]:
            with self.assertRaises(WishError):
                self.desk.say(row)
            self.says("paper", "holds")

    def test_behind_deeds(self):
        # The claim is of the lexicon as it was when it was answered.
        self.says("words one: john runs", "sentence")
        for row in ["take one john", "put one runs 1", "lexicon one goal a; a: b", "mirror one one", "short one one"]:
            self.says(row, "ok")
            self.says("paper", "holds")

    def test_beyond_what_the_checker_takes(self):
        words = " ".join(["oh"] * 8)
        self.says("words one: " + words, "none")
        self.says("paper", "holds")
        self.says(f"words one: {words} oh", "none")
        self.says("paper", "no")
        row = " ".join(["n"] * 61)
        self.says(f"comes one: {row} > {row}", "yes")
        self.says("paper", "no")
        self.says("comes one: n > n", "yes")
        self.says("paper", "holds")


class NoRowTest(Looks, unittest.TestCase):
    def test_what_is_no_text(self):
        for thing in odd_things() + NUMBERS + TUPLES + unshown_things() + [RIGHT, tuple(RIGHT), b"paper"]:
            with self.assertRaises(NoRow) as caught:
                self.desk.say(thing)
            self.assertIs(caught.exception.row, thing)

    def test_another_first_word(self):
        for row in RIGHT:
            rest = row.partition(" ")[2]
            for first in ["", "nothing", "Show", "lexicons", row.upper(), "paper:", "words:", "show\n"]:
                self.no_row(first + " " + rest)
            self.no_row(" " + row)
        for row in ["", " ", "  ", "\n", "~", "papers", "lexicon", "show", "mirror", "put", "take", "words", "comes"]:
            self.no_row(row)

    def test_a_word_more(self):
        for row in ["show one", "mirror one other", "short new one", "take one oh", "part one other 2", "paper"]:
            for more in [" x", " one", " ", "  ", " 2"]:
                self.no_row(row + more)

    def test_a_word_fewer(self):
        for row in ["show", "show ", "mirror one", "mirror one ", "short one", "take one", "part one 2", "part 2"]:
            self.no_row(row)
        for row in ["lexicon", "lexicon one", "put one", "put one john", "words one:", "many one:", "draw one:"]:
            self.no_row(row)
        for row in ["words", "words ", "words one", "words one john runs", "words : john", "comes one:", "comes one: "]:
            self.no_row(row)

    def test_two_blanks(self):
        for row in RIGHT:
            self.no_row(row.replace(" ", "  ", 1) if " " in row else row + " ")
        for row in ["mirror one  other", "part one  other 2", "part one other  2", "take  one oh", "words  one: oh"]:
            self.no_row(row)

    def test_names_that_are_none(self):
        for name in ["", "A", "one1", "abcdefghi", "o_ne", "one.", "one;", "one\n", "-", "1"]:
            for row in RIGHT:
                if " one" in row:
                    self.no_row(row.replace(" one", " " + name, 1))
            self.no_row(f"mirror one {name}")
            self.no_row(f"short {name} one")
            self.no_row(f"part one {name} 2")
            self.no_row(f"words {name}: oh")
        self.no_row("words one : oh")
        self.no_row("words one:: oh")
        self.no_row("words one:oh")
        self.no_row("show one:")
        self.no_row("put one: john n")

    def test_lengths_of_no_one_figure(self):
        for length in ["", "10", "01", "-1", "+1", "a", "1.", "1\n", "\u0663", "\u00b2", "0x1", "None"]:
            self.no_row(f"part one other {length}")

    def test_two_texts(self):
        for text in ["", "n", "n >", "> n", "n>n", "n  >n", ">", " >", "> ", "n < n"]:
            self.no_row("comes one: " + text)
        for text in ["n > n > n", " > n > ", "n > > > n", " >  > "]:
            self.no_row("comes one: " + text)
        # Looked for from the left, it is there just once.
        for text in [" > ", "n > ", " > n", "n > > n", "n >  > n", "> > >"]:
            row = "comes one: " + text
            if is_row_by_hand(row):
                self.assertIsNone(self.refused(NoText, row).part)
            else:
                self.no_row(row)

    def test_bent_rows(self):
        chance = random.Random(9)
        told = {True: 0, False: 0}
        for row in RIGHT:
            rows = [row[:at] + row[at + 1 :] for at in range(len(row))]
            for sign in " :>|aA1;\n":
                rows.extend([row[:at] + sign + row[at:] for at in range(len(row) + 1)])
                rows.extend([row[:at] + sign + row[at + 1 :] for at in range(len(row))])
            for other in chance.sample(RIGHT, 8):
                rows.append(row + " " + other)
                rows.append(row.partition(" ")[0] + " " + other.partition(" ")[2])
            for text in rows:
                desk = desk_with(one=SMALL, other=OTHER)
                try:
                    desk.say(text)
                    right = True
                except NoRow as refusal:
                    self.assertEqual(refusal.row, text)
                    right = False
                except WishError:
                    right = True
                self.assertIs(right, is_row_by_hand(text), text)
                told[right] += 1
        self.assertGreater(told[True], 500)
        self.assertGreater(told[False], 500)


class RefusalTest(Looks, unittest.TestCase):
    def test_no_row_ahead_of_no_kept(self):
        for row in ["show a b", "part a b c", "part a b", "words a", "comes a: n > n > n", "put a w", "take a"]:
            self.no_row(row)

    def test_no_kept_with_the_first_name(self):
        for row, name in [
            ("show a", "a"),
            ("mirror new a", "a"),
            ("mirror one a", "a"),
            ("short a b", "b"),
            ("put a john n", "a"),
            ("take a john", "a"),
            ("words a: john", "a"),
            ("many a: ", "a"),
            ("draw a: john", "a"),
            ("comes a: n > n", "a"),
            ("part a b 2", "a"),
            ("part one b 2", "b"),
            ("part a one 2", "a"),
        ]:
            self.assertEqual(self.refused(NoKept, row).name, name)

    def test_no_kept_ahead_of_all_else(self):
        for row in ["put a W .", "take a W", "words a: x", "many a:  ", "draw a: x", "comes a: . > .", "comes a:  > "]:
            self.assertEqual(self.refused(NoKept, row).name, "a")

    def test_no_text_of_a_lexicon(self):
        for text, part in [("", 0), ("goal", 0), (" goal s; a: s", 0), ("goal s", None), ("goal s; a: s; a: n", 2)]:
            for name in ["one", "new"]:
                self.assertEqual(self.refused(NoText, f"lexicon {name} {text}").part, part)

    def test_no_text_of_a_row(self):
        for text in ["", " ", ".", "n.", "n  n", "n |", "| n", "n | ", "n | | n", "n | .", "n | n."]:
            for word in ["john", "mary", "W", ""]:
                self.assertIsNone(self.refused(NoText, f"put one {word} {text}").part)
        for texts in ["n > .", ". > n", ". > .", " > n", "n > ", " > "]:
            self.assertIsNone(self.refused(NoText, f"comes one: {texts}").part)

    def test_no_text_ahead_of_no_lexicon(self):
        self.refused(NoText, "put one W n | n | .")
        self.refused(NoText, "put one john n | n | n | n | n | n.")

    def test_no_lexicon(self):
        for row in ["put one W n", "put one  n", "put one john n | n", "put one john a | b | c | d | e"]:
            self.refused(NoLexicon, row)
        self.refused(NoLexicon, "put one john n n n n n n")
        self.says("lexicon a goal s; w: a a.r a.rr | b b.r b.rr | c", "ok")
        self.refused(NoLexicon, "short a a")
        self.refused(NoLexicon, "short new a")
        self.refused(NoLexicon, "take a w")
        self.says("lexicon a goal s; " + "; ".join([f"{word}: s" for word in "abcdefghij"]), "ok")
        self.refused(NoLexicon, "put a k s")
        self.says("put a j n", "ok")

    def test_no_word(self):
        for deed in ["words", "many", "draw"]:
            for words, wrong in [
                ("x", "x"),
                ("john x y", "x"),
                (" ", ""),
                ("  ", ""),
                ("john ", ""),
                (" john", ""),
                ("john  runs", ""),
                ("john x ", "x"),
                ("john:", "john:"),
            ]:
                self.assertEqual(self.refused(NoWord, f"{deed} one: {words}").word, wrong)
        for word in ["x", "", "W", "john;", "\n"]:
            self.assertEqual(self.refused(NoWord, f"take one {word}").word, word)

    def test_no_word_ahead_of_no_lexicon(self):
        self.says("lexicon a goal s; w: s", "ok")
        self.assertEqual(self.refused(NoWord, "take a x").word, "x")

    def test_nothing_changes_the_last_answer(self):
        self.says("words one: john runs", "sentence")
        self.refused(NoWord, "words one: x")
        self.refused(NoText, "comes one: . > n")
        self.refused(NoRow, "comes one: n")
        self.says("paper", "holds")


if __name__ == "__main__":
    unittest.main()
