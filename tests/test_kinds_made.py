"""Promises [4] and [5]: the functions that return a kind."""

import unittest

from buzzround.errors import NoBase, NoDivisor, NoFigure, NoRest
from buzzround.kinds import bears, ends, every, figure_sum, multiple, rest
from tests.plain import simple_kinds, wrong_integers

WITH_A_BASE_AND_A_DIVISOR = (multiple, lambda base, number: rest(base, number, 0),
                             lambda base, number: figure_sum(base, number, 0))


class Made(unittest.TestCase):
    def test_small_numbers_in_all_bases(self):
        for base in range(2, 17):
            for at, (kind, told) in enumerate(simple_kinds(base)):
                with self.subTest(base=base, at=at):
                    self.assertEqual(kind.base(), base)
                    for number in range(1, 3 * base * base):
                        self.assertEqual(number in kind, told(number), number)

    def test_great_numbers(self):
        for base in (2, 3, 10, 16):
            for at, (kind, told) in enumerate(simple_kinds(base)):
                with self.subTest(base=base, at=at):
                    for start in (10 ** 40, base ** 20, 10 ** 59):
                        for number in range(start - 3, start + 4):
                            self.assertEqual(number in kind, told(number), number)

    def test_every_number(self):
        for base in range(2, 17):
            self.assertTrue(all(number in every(base) for number in range(1, 300)))

    def test_the_edges_of_a_base(self):
        self.assertEqual(bears(2, 1), every(2))
        self.assertEqual([number for number in range(1, 20) if number not in bears(2, 0)], [1, 3, 7, 15])
        self.assertEqual([number for number in range(1, 34) if number in ends(16, 15)], [15, 31])
        self.assertEqual([number for number in range(1, 34) if number in ends(16, 0)], [16, 32])
        self.assertEqual(ends(2, 0), multiple(2, 2))
        self.assertEqual(ends(16, 1) | ends(16, 13), (rest(16, 12, 1) & ends(16, 1)) | ends(16, 1) | ends(16, 13))

    def test_no_base(self):
        for base in wrong_integers(2, 16):
            with self.subTest(base=base):
                self.assertRaises(NoBase, every, base)
                self.assertRaises(NoBase, multiple, base, 7)
                self.assertRaises(NoBase, rest, base, 7, 1)
                self.assertRaises(NoBase, bears, base, 1)
                self.assertRaises(NoBase, ends, base, 1)
                self.assertRaises(NoBase, figure_sum, base, 7, 1)

    def test_no_divisor(self):
        for number in wrong_integers(2, 12):
            for make in WITH_A_BASE_AND_A_DIVISOR:
                with self.subTest(number=number):
                    self.assertRaises(NoDivisor, make, 10, number)

    def test_no_rest(self):
        for number in (2, 7, 12):
            for make in (rest, figure_sum):
                self.assertEqual(make(10, number, 0).base(), 10)
                self.assertEqual(make(10, number, number - 1).base(), 10)
                for value in wrong_integers(0, number - 1):
                    with self.subTest(number=number, rest=value):
                        self.assertRaises(NoRest, make, 10, number, value)

    def test_no_figure(self):
        for base in (2, 10, 16):
            for make in (bears, ends):
                self.assertEqual(make(base, base - 1).base(), base)
                for value in wrong_integers(0, base - 1):
                    with self.subTest(base=base, figure=value):
                        self.assertRaises(NoFigure, make, base, value)

    def test_the_first_wrong_argument_is_told(self):
        for wrong in (-5, 99, True, None, "x", [], ()):
            with self.subTest(wrong=wrong):
                self.assertRaises(NoBase, multiple, wrong, wrong)
                self.assertRaises(NoBase, bears, wrong, wrong)
                self.assertRaises(NoBase, ends, wrong, wrong)
                for make in (rest, figure_sum):
                    self.assertRaises(NoBase, make, wrong, wrong, wrong)
                    self.assertRaises(NoBase, make, wrong, 7, wrong)
                    self.assertRaises(NoDivisor, make, 10, wrong, wrong)


if __name__ == "__main__":
    unittest.main()
