import unittest

from tests.things import unshown_things
from wordwishes import errors

FIELDS = {
    "NoText": "part",
    "NoStep": "number",
    "NoWord": "word",
    "NoNumber": None,
    "NoDrawing": None,
    "NoWorld": None,
    "NoLexicon": None,
    "NoRow": "row",
    "NoKept": "name",
}


def made(name, told=3):
    kind = getattr(errors, name)
    return kind() if FIELDS[name] is None else kind(told)


class ErrorsTest(unittest.TestCase):
    def test_the_base_stands_under_value_error(self):
        self.assertTrue(issubclass(errors.WishError, ValueError))

    def test_each_stands_under_the_base(self):
        for name in FIELDS:
            with self.subTest(name):
                error = made(name)
                self.assertIsInstance(error, errors.WishError)
                self.assertIsInstance(error, ValueError)

    def test_none_stands_under_another_one(self):
        for name in FIELDS:
            for other in FIELDS:
                if other != name:
                    with self.subTest(name=name, other=other):
                        self.assertNotIsInstance(made(name), getattr(errors, other))

    def test_each_field_is_what_was_told(self):
        told_things = [0, 7, None, "ab", "", "1 2\n", ("a", 0), ["a"], {"a": 1}]
        for name, field in FIELDS.items():
            if field is not None:
                for told in told_things:
                    with self.subTest(name=name, told=told):
                        self.assertIs(getattr(made(name, told), field), told)

    def test_each_can_be_made_and_shown_of_what_cannot_be_shown(self):
        for name, field in FIELDS.items():
            if field is not None:
                for told in unshown_things():
                    error = made(name, told)
                    self.assertIs(getattr(error, field), told)
                    self.assertNotEqual(str(error), "")
                    self.assertNotEqual(repr(error), "")

    def test_each_can_be_raised_and_taken_by_its_name_and_by_the_base(self):
        for name in FIELDS:
            with self.subTest(name):
                with self.assertRaises(getattr(errors, name)):
                    raise made(name)
                with self.assertRaises(errors.WishError):
                    raise made(name)

    def test_each_has_words(self):
        for name, field in FIELDS.items():
            if field is not None:
                self.assertNotEqual(str(made(name)), "")


if __name__ == "__main__":
    unittest.main()
