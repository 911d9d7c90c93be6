"""The interface: names, arguments, and where they are defined."""

import inspect
import unittest

from buzzround import kinds, rules
from buzzround.kinds import Kind
from buzzround.rules import Rules

FUNCTIONS = {
    "multiple": "(base, number)",
    "rest": "(base, number, rest)",
    "bears": "(base, figure)",
    "ends": "(base, figure)",
    "figure_sum": "(base, number, rest)",
    "every": "(base)",
}
KIND = {
    "__and__": "(self, other)",
    "__or__": "(self, other)",
    "__xor__": "(self, other)",
    "__invert__": "(self)",
    "__eq__": "(self, other)",
    "__contains__": "(self, number)",
    "base": "(self)",
    "size": "(self)",
    "count": "(self, number)",
    "nth": "(self, place)",
    "after": "(self, number)",
    "least": "(self)",
    "unlike": "(self, other)",
    "is_finite": "(self)",
}
RULES = {
    "__init__": "(self, base, rows=())",
    "__eq__": "(self, other)",
    "base": "(self)",
    "rows": "(self)",
    "size": "(self)",
    "holding": "(self, number)",
}


class Interface(unittest.TestCase):
    def test_functions_stand_in_their_file(self):
        for name, arguments in FUNCTIONS.items():
            with self.subTest(name):
                self.assertEqual(getattr(kinds, name).__module__, "buzzround.kinds")
                self.assertEqual(getattr(kinds, name).__name__, name)
                self.assertEqual(str(inspect.signature(getattr(kinds, name))), arguments)

    def test_methods_stand_in_their_class(self):
        for own, file, methods in ((Kind, kinds, KIND), (Rules, rules, RULES)):
            self.assertEqual(own.__module__, file.__name__)
            for name, arguments in methods.items():
                with self.subTest(own=own.__name__, name=name):
                    self.assertEqual(str(inspect.signature(vars(own)[name])), arguments)

    def test_arguments_by_name(self):
        self.assertEqual(kinds.multiple(number=7, base=10), kinds.multiple(10, 7))
        self.assertEqual(kinds.rest(rest=2, number=7, base=10), kinds.rest(10, 7, 2))
        self.assertEqual(kinds.bears(figure=7, base=10), kinds.bears(10, 7))
        self.assertEqual(kinds.ends(figure=7, base=10), kinds.ends(10, 7))
        self.assertEqual(kinds.figure_sum(rest=2, number=7, base=10), kinds.figure_sum(10, 7, 2))
        self.assertEqual(kinds.every(base=10), kinds.every(10))
        kind = kinds.multiple(10, 7)
        told = kind.count(number=70), kind.nth(place=3), kind.after(number=21), kind.unlike(other=kinds.every(10))
        self.assertEqual(told, (10, 21, 28, 1))
        lot = Rules(rows=((kind, ("turn",)),), base=10)
        self.assertEqual((lot.base(), lot.holding(number=14)), (10, [0]))

    def test_kinds_of_values(self):
        kind = kinds.multiple(10, 7)
        for value in (kind.base(), kind.size(), kind.count(20), kind.nth(2), kind.after(9), kind.least()):
            self.assertIs(type(value), int)
        for value in (kind.unlike(kinds.every(10)), Rules(10).base(), Rules(10).size()):
            self.assertIs(type(value), int)
        for value in (7 in kind, 8 in kind, kind.is_finite(), (kind & ~kind).is_finite(), kind == kind, kind == 7):
            self.assertIs(type(value), bool)
        for made in (kind & kind, kind | kind, kind ^ kind, ~kind):
            self.assertIs(type(made), Kind)
        self.assertIs(type(Rules(10).rows()), tuple)
        self.assertIs(type(Rules(10).holding(1)), list)


if __name__ == "__main__":
    unittest.main()
