"""Promises [6] and [7]: operators, sizes, equality and members."""

import unittest

from buzzround.errors import NoMatch, TooWide
from buzzround.kinds import bears, ends, every, figure_sum, multiple, rest
from buzzround.rules import Rules
from tests.plain import STRANGE, figures, just_200, least_size, only, ones, simple_kinds


class Operators(unittest.TestCase):
    def test_small_numbers(self):
        for base in (2, 3, 10, 16):
            told = simple_kinds(base)
            for at in range(0, len(told), 5):
                (one, in_one), (other, in_other) = told[at], told[(at * 7 + 3) % len(told)]
                both, some, just, none = one & other, one | other, one ^ other, ~one
                with self.subTest(base=base, at=at):
                    for number in range(1, 400):
                        first, second = in_one(number), in_other(number)
                        self.assertEqual(number in both, first and second)
                        self.assertEqual(number in some, first or second)
                        self.assertEqual(number in just, first != second)
                        self.assertEqual(number in none, not first)
                    self.assertEqual([kind.base() for kind in (both, some, just, none)], [base] * 4)

    def test_operators_change_nothing(self):
        one, other = multiple(10, 7), bears(10, 7)
        made = one & other, one | other, one ^ other, ~one
        self.assertEqual((one, other), (multiple(10, 7), bears(10, 7)))
        self.assertEqual(made, (one & other, one | other, one ^ other, ~one))
        self.assertEqual(one.count(1000), 142)

    def test_unlike_bases(self):
        for one in (every(2), multiple(9, 7), bears(10, 1)):
            for other in (every(3), multiple(16, 7), bears(11, 1)):
                self.assertRaises(NoMatch, lambda: one & other)
                self.assertRaises(NoMatch, lambda: one | other)
                self.assertRaises(NoMatch, lambda: one ^ other)
                self.assertRaises(NoMatch, lambda: other & one)

    def test_what_is_no_kind_has_no_base(self):
        for other in (7, every, *STRANGE):
            with self.subTest(other=other):
                self.assertRaises(NoMatch, lambda: every(10) & other)
                self.assertRaises(NoMatch, lambda: every(10) | other)
                self.assertRaises(NoMatch, lambda: every(10) ^ other)
                self.assertRaises(NoMatch, every(10).unlike, other)

    def test_unlike_bases_come_ahead_of_width(self):
        self.assertRaises(NoMatch, lambda: just_200() & multiple(10, 7))

    def test_just_200_and_more(self):
        kind = just_200()
        self.assertEqual(kind.size(), 200)
        self.assertEqual((~kind).size(), 200)
        self.assertEqual((~(multiple(3, 5) & figure_sum(3, 5, 0)) | ~multiple(3, 8)).size(), 200)
        # Without a figure one more state is needed, for what has it.
        self.assertRaises(TooWide, lambda: kind & ~bears(3, 0))
        self.assertRaises(TooWide, lambda: ~kind | bears(3, 0))
        self.assertRaises(TooWide, lambda: kind ^ bears(3, 0))

    def test_multiples_without_a_common_divisor(self):
        wide = multiple(11, 2) & multiple(11, 9) & multiple(11, 7)
        self.assertEqual(wide.size(), 126)
        self.assertRaises(TooWide, lambda: wide & multiple(11, 5))
        self.assertRaises(TooWide, lambda: wide | multiple(11, 5))
        self.assertRaises(TooWide, lambda: wide ^ multiple(11, 5))
        self.assertEqual((multiple(11, 3) & wide).size(), 126)

    def test_narrow_kinds_of_wide_ones(self):
        one = multiple(16, 7) & multiple(16, 11) & figure_sum(16, 2, 0)
        other = figure_sum(16, 11, 0) & figure_sum(16, 9, 0) & figure_sum(16, 2, 1)
        self.assertEqual((one.size(), other.size()), (154, 198))
        self.assertRaises(TooWide, lambda: one | other)
        self.assertRaises(TooWide, lambda: one ^ other)
        self.assertEqual(one & other, ~every(16))
        self.assertEqual(~one | ~other, every(16))

    def test_many_states_one_behind_the_other(self):
        self.assertEqual(ones((11, 7, 2)).size(), 155)
        self.assertEqual(ones((9, 5, 4)).size(), 181)
        for join in (lambda a, b: a & b, lambda a, b: a | b, lambda a, b: a ^ b):
            self.assertRaises(TooWide, join, ones((11, 7, 2)), ones((9, 5, 4)))


class Sizes(unittest.TestCase):
    def test_told_sizes(self):
        self.assertEqual(multiple(10, 7).size(), 7)
        self.assertEqual(every(10).size(), 1)
        self.assertEqual((~every(10)).size(), 1)
        self.assertEqual(multiple(10, 2).size(), 2)
        self.assertEqual(multiple(10, 12).size(), 7)
        self.assertEqual(bears(10, 0).size(), 2)
        self.assertEqual(bears(2, 1).size(), 1)
        self.assertEqual(figure_sum(2, 12, 11).size(), 12)
        self.assertEqual(figure_sum(16, 12, 0).size(), 12)

    def test_least_sizes_by_a_plain_reading(self):
        for base in (2, 3, 10, 16):
            for at, (kind, told) in enumerate(simple_kinds(base)[::3]):
                with self.subTest(base=base, at=at):
                    self.assertEqual(kind.size(), least_size(base, told))

    def test_least_sizes_behind_operators(self):
        def told(number):
            return number % 6 == 0 and 7 in figures(number, 10)

        self.assertEqual((multiple(10, 6) & bears(10, 7)).size(), least_size(10, told))
        self.assertEqual((multiple(10, 7) ^ multiple(10, 7)).size(), 1)
        self.assertEqual((multiple(10, 2) & multiple(10, 3)).size(), multiple(10, 6).size())


class Equality(unittest.TestCase):
    def test_equal_kinds_that_were_made_otherwise(self):
        a, b = multiple(10, 7), bears(10, 7)
        self.assertEqual(~~a, a)
        self.assertEqual(~(a & b), ~a | ~b)
        self.assertEqual(a ^ b, (a | b) & ~(a & b))
        self.assertEqual(a ^ b ^ b, a)
        self.assertEqual(multiple(10, 2) & multiple(10, 3), multiple(10, 6))
        self.assertEqual(rest(10, 9, 4), figure_sum(10, 9, 4))
        self.assertEqual(rest(10, 2, 1), ~multiple(10, 2))
        self.assertEqual(ends(10, 0), multiple(10, 5) & multiple(10, 2))
        self.assertEqual(rest(10, 12, 5), rest(10, 3, 2) & rest(10, 4, 1))
        self.assertEqual(only(10, ()), ~every(10))
        self.assertTrue(a == multiple(10, 7))
        self.assertFalse(a != multiple(10, 7))

    def test_unlike_kinds(self):
        a = multiple(10, 7)
        self.assertNotEqual(a, ~a)
        self.assertNotEqual(a, multiple(9, 7))
        self.assertNotEqual(every(10), every(9))
        self.assertNotEqual(~every(10), ~every(9))
        self.assertNotEqual(rest(10, 7, 1), rest(10, 7, 2))
        self.assertTrue(a != multiple(10, 8))
        # These differ from 2 ** 154 - 1 on.
        self.assertNotEqual(ones((11, 7, 2)), ~every(2))

    def test_equal_to_nothing_else(self):
        for value in (7, "multiple", 10, *STRANGE, Rules(10), multiple):
            self.assertFalse(every(10) == value)
            self.assertTrue(every(10) != value)
            self.assertFalse(value == ~every(10))


class Members(unittest.TestCase):
    def test_any_value(self):
        for base in (2, 10, 16):
            for value in (0, -1, -7, -10 ** 40, 0.0, 7.0, *STRANGE, every(10), Rules(10), every):
                with self.subTest(base=base, value=value):
                    self.assertIs(value in every(base), False)
                    self.assertIs(value in ~every(base), False)
                    self.assertIs(value in multiple(base, 7), False)

    def test_sixty_digits(self):
        great = int("1234567890" * 6)
        for number in range(great, great + 30):
            self.assertIs(number in multiple(10, 7), number % 7 == 0)
            self.assertIs(number in multiple(2, 11), number % 11 == 0)
            self.assertIs(number in figure_sum(16, 12, 5), sum(figures(number, 16)) % 12 == 5)
            self.assertIs(number in bears(9, 8), 8 in figures(number, 9))
        self.assertIn(10 ** 59, ends(10, 0))
        self.assertIn(10 ** 60 - 1, only(10, (9,)))
        self.assertNotIn(10 ** 60 - 2, only(10, (9,)))
        self.assertNotIn(-great, every(10))


if __name__ == "__main__":
    unittest.main()
