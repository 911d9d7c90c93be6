"""Promise [3]: the errors."""

import unittest

from buzzround import errors
from buzzround.errors import RoundError

WITH_A_STRING = (
    "NoNumber", "NoBase", "NoDivisor", "NoRest", "NoFigure", "NoMatch", "TooWide", "NoPlace", "NoPeople",
    "NoPerson", "NoLater", "NoCounts", "NoLevels", "TooShort", "NoState", "NoLevel", "NoCount", "NothingToUndo",
    "NoOrder", "NoName", "NoRoom",
)
WITH_A_FIELD = (("NoRow", "index"), ("NoLook", "index"), ("NoText", "row"))


class Errors(unittest.TestCase):
    def test_the_base_of_all(self):
        self.assertEqual(RoundError.__bases__, (ValueError,))
        self.assertEqual(str(RoundError("told")), "told")

    def test_each_is_directly_under_the_base(self):
        for name in WITH_A_STRING + tuple(name for name, field in WITH_A_FIELD):
            with self.subTest(name):
                self.assertEqual(getattr(errors, name).__bases__, (RoundError,))
                self.assertEqual(getattr(errors, name).__module__, "buzzround.errors")

    def test_one_string(self):
        for name in WITH_A_STRING:
            with self.subTest(name):
                self.assertEqual(str(getattr(errors, name)("told")), "told")

    def test_a_field_of_any_value(self):
        for name, field in WITH_A_FIELD:
            for value in (0, 7, -1, True, None, "x", [1], (1,), {"a": 1}, 2.5):
                with self.subTest(name, value=value):
                    self.assertIs(getattr(getattr(errors, name)(value), field), value)
                    self.assertIs(getattr(getattr(errors, name)(**{field: value}), field), value)

    def test_a_field_is_needed(self):
        for name, field in WITH_A_FIELD:
            with self.subTest(name):
                self.assertRaises(TypeError, getattr(errors, name))
                self.assertRaises(TypeError, getattr(errors, name), 1, 2)

    def test_no_other_error(self):
        found = {
            name for name, value in vars(errors).items() if isinstance(value, type) and issubclass(value, Exception)
        }
        self.assertEqual(found, {"RoundError", *WITH_A_STRING, *[name for name, field in WITH_A_FIELD]})


if __name__ == "__main__":
    unittest.main()
