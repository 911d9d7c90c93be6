"""Promises [1] and [8]: kinds are counted, told by their places and told apart."""

import unittest

from buzzround.errors import NoMatch, NoNumber, NoPlace, TooWide
from buzzround.kinds import bears, ends, every, figure_sum, multiple, rest
from tests.plain import GREATEST, just_200, only, ones, powers_of_ten, simple_kinds, wrong_integers


def some_kinds(base):
    """Kinds of a base, each with a function that tells its numbers plainly."""
    told = simple_kinds(base)[::5]
    found = list(told)
    for at in range(len(told)):
        (one, in_one), (other, in_other) = told[at], told[at * 5 % len(told)]
        found.append((one & ~other, lambda number, a=in_one, b=in_other: a(number) and not b(number)))
        found.append((one ^ other, lambda number, a=in_one, b=in_other: a(number) != b(number)))
    return found


class Example(unittest.TestCase):
    def test_of_the_document(self):
        kind = multiple(10, 7) | bears(10, 7)
        self.assertEqual([number for number in range(1, 30) if number in kind], [7, 14, 17, 21, 27, 28])
        self.assertEqual((kind.count(10 ** 6), kind.nth(6), kind.after(69)), (544479, 28, 70))


class SmallNumbers(unittest.TestCase):
    def test_against_a_plain_reading(self):
        last = 400
        for base in (2, 3, 10, 16):
            for at, (kind, told) in enumerate(some_kinds(base)):
                with self.subTest(base=base, at=at):
                    inside = [number for number in range(1, last) if told(number)]
                    self.assertEqual([kind.nth(place) for place in range(1, len(inside) + 1)], inside)
                    if inside:
                        self.assertEqual(kind.least(), inside[0])
                    counted = 0
                    for number in range(1, last):
                        counted += told(number)
                        self.assertEqual(kind.count(number), counted)
                        if counted < len(inside):
                            self.assertEqual(kind.after(number), inside[counted])

    def test_told_apart_by_the_first_unlike_number(self):
        last = 300
        for base in (2, 10, 16):
            kinds = [(kind, told, [told(number) for number in range(1, last)]) for kind, told in some_kinds(base)[::6]]
            for one, in_one, first in kinds:
                for other, in_other, second in kinds:
                    number = one.unlike(other)
                    if first != second:
                        self.assertEqual(number, [a != b for a, b in zip(first, second)].index(True) + 1)
                    elif number is None:
                        self.assertEqual(one, other)
                    else:
                        self.assertNotEqual(one, other)
                        self.assertGreaterEqual(number, last)
                        self.assertNotEqual(in_one(number), in_other(number))


class GreatNumbers(unittest.TestCase):
    def test_counts_that_are_known(self):
        for base in (2, 7, 10, 16):
            self.assertEqual(every(base).count(GREATEST), GREATEST)
            self.assertEqual((~every(base)).count(GREATEST), 0)
            for by in range(2, 13):
                self.assertEqual(multiple(base, by).count(GREATEST), GREATEST // by)
                self.assertEqual(rest(base, by, by - 1).count(GREATEST), (GREATEST + 1) // by)
        for figure in range(1, 10):
            self.assertEqual(ends(10, figure).count(GREATEST), 10 ** 39)
            # Without the figure there are 9 ** 40 ways to write 40 figures, zeros ahead among them.
            self.assertEqual(bears(10, figure).count(GREATEST - 1), 10 ** 40 - 9 ** 40)
            self.assertEqual(bears(10, figure).count(GREATEST), 10 ** 40 - 9 ** 40 + (figure == 1))
        self.assertEqual(figure_sum(2, 2, 1).count(2 ** 132 - 1), 2 ** 131)
        self.assertEqual(figure_sum(2, 2, 0).count(2 ** 132 - 1), 2 ** 131 - 1)

    def test_windows_against_a_plain_reading(self):
        for base in (2, 10, 16):
            for at, (kind, told) in enumerate(some_kinds(base)):
                with self.subTest(base=base, at=at):
                    for start in (GREATEST - 40, base ** 25 - 20):
                        self.check_window(kind, told, start)

    def check_window(self, kind, told, start):
        counted = kind.count(start)
        for number in range(start + 1, start + 41):
            counted += told(number)
            self.assertEqual(kind.count(number), counted)
            if told(number):
                self.assertEqual(kind.nth(counted), number)
                self.assertEqual(kind.after(number - 1), number)

    def test_count_and_place_belong_together(self):
        for kind in (multiple(10, 7) | bears(10, 7), figure_sum(2, 11, 4), rest(16, 12, 11), just_200()):
            for place in (1, 2, 10 ** 9, 10 ** 20 + 7, 10 ** 36):
                number = kind.nth(place)
                self.assertIn(number, kind)
                self.assertEqual(kind.count(number), place)
                self.assertEqual(kind.after(number), kind.nth(place + 1))

    def test_the_last_place(self):
        self.assertEqual(every(10).nth(GREATEST), GREATEST)
        self.assertEqual(every(2).nth(GREATEST), GREATEST)
        for base in (2, 3, 10, 16):
            kind = multiple(base, 11)
            self.assertEqual(kind.nth(GREATEST // 11), GREATEST // 11 * 11)
            self.assertIs(kind.nth(GREATEST // 11 + 1), None)
            self.assertIs(kind.nth(GREATEST), None)
            self.assertEqual(kind.after(GREATEST), (GREATEST // 11 + 1) * 11)

    def test_members_at_and_beyond_the_greatest_number(self):
        kind = powers_of_ten()
        self.assertEqual((kind.count(GREATEST - 1), kind.count(GREATEST)), (40, 41))
        self.assertEqual((kind.nth(40), kind.nth(41), kind.nth(42)), (10 ** 39, GREATEST, None))
        self.assertEqual(kind.after(10 ** 39), GREATEST)
        self.assertEqual(kind.after(GREATEST - 1), GREATEST)
        self.assertEqual(kind.after(GREATEST), 10 ** 41)
        self.assertIn(10 ** 41, kind)

    def test_members_just_below_the_greatest_number(self):
        kind = only(10, (9,))
        self.assertEqual((kind.count(GREATEST - 2), kind.count(GREATEST - 1), kind.count(GREATEST)), (39, 40, 40))
        self.assertEqual((kind.nth(40), kind.nth(41)), (GREATEST - 1, None))
        self.assertEqual(kind.after(GREATEST - 2), GREATEST - 1)
        self.assertEqual(kind.after(GREATEST - 1), 10 ** 41 - 1)
        self.assertEqual(kind.after(GREATEST), 10 ** 41 - 1)

    def test_members_just_beyond_the_greatest_number(self):
        kind = only(10, (0, 1)) & figure_sum(10, 12, 2) & figure_sum(10, 11, 2) & ends(10, 1)
        self.assertEqual((kind.least(), kind.count(GREATEST), kind.nth(39)), (11, 39, 10 ** 39 + 1))
        self.assertIs(kind.nth(40), None)
        self.assertEqual(kind.after(10 ** 39 + 1), GREATEST + 1)
        self.assertEqual(kind.after(GREATEST), GREATEST + 1)

    def test_members_far_beyond_the_greatest_number(self):
        kind = ones((11, 7, 2))
        self.assertEqual(kind.count(GREATEST), 0)
        self.assertIs(kind.nth(1), None)
        self.assertEqual(kind.least(), 2 ** 154 - 1)
        self.assertEqual(kind.after(1), 2 ** 154 - 1)
        self.assertEqual(kind.after(GREATEST), 2 ** 154 - 1)
        self.assertIs(kind.is_finite(), False)


class EmptyAndFinite(unittest.TestCase):
    def test_empty(self):
        for base in (2, 10, 16):
            for kind in (~every(base), multiple(base, 7) & rest(base, 7, 1), only(base, ())):
                self.assertIs(kind.least(), None)
                self.assertIs(kind.after(1), None)
                self.assertIs(kind.after(GREATEST), None)
                self.assertIs(kind.nth(1), None)
                self.assertEqual((kind.count(1), kind.count(GREATEST)), (0, 0))
                self.assertIs(kind.is_finite(), True)
                self.assertIs(kind.unlike(~every(base)), None)

    def test_finite(self):
        # Of 5, 55, 555 and so on, only 55 has the rest 7 by 8.
        kind = only(10, (5,)) & rest(10, 8, 7)
        self.assertIs(kind.is_finite(), True)
        self.assertEqual((kind.least(), kind.nth(1), kind.after(54), kind.after(5)), (55, 55, 55, 55))
        self.assertEqual((kind.count(54), kind.count(55), kind.count(GREATEST)), (0, 1, 1))
        self.assertEqual((kind.nth(2), kind.after(55), kind.after(GREATEST)), (None, None, None))
        self.assertIs((kind | (only(10, (7,)) & rest(10, 8, 7))).is_finite(), True)
        self.assertIs((~kind).is_finite(), False)

    def test_infinite(self):
        for kind in (every(2), every(16), multiple(10, 12), bears(2, 0), only(10, (9,)), ones((12, 11)), just_200()):
            self.assertIs(kind.is_finite(), False)

    def test_finite_is_told_by_what_lasts(self):
        for base in (2, 6, 10, 16):
            for figure in range(1, base):
                for by in (4, 8, 9, 12):
                    inside = [length for length in range(1, 60) if (base ** length - 1) // (base - 1) * figure % by == 1]
                    kind = only(base, (figure,)) & rest(base, by, 1)
                    self.assertIs(kind.is_finite(), not [length for length in inside if length > 30])
                    self.assertEqual(kind.count(base ** 20 - 1), len([length for length in inside if length <= 20]))


class Unlike(unittest.TestCase):
    def test_equal_kinds(self):
        a, b = multiple(10, 7), bears(10, 7)
        self.assertIs((~(a & b)).unlike(~a | ~b), None)
        self.assertIs(just_200().unlike(just_200()), None)

    def test_beyond_the_greatest_number(self):
        self.assertEqual(powers_of_ten().unlike(powers_of_ten() & ~bears(10, 1)), 1)
        kind = ones((11, 7, 2))
        self.assertEqual(kind.unlike(~every(2)), 2 ** 154 - 1)
        self.assertEqual((~every(2)).unlike(kind), 2 ** 154 - 1)

    def test_where_the_two_are_too_wide_together(self):
        one, other = ones((11, 7, 2)), ones((9, 5, 4))
        self.assertRaises(TooWide, lambda: one ^ other)
        self.assertEqual(one.unlike(other), 2 ** 154 - 1)
        self.assertEqual(other.unlike(one), 2 ** 154 - 1)
        one, other = just_200(), multiple(3, 7) & multiple(3, 11)
        self.assertRaises(TooWide, lambda: one ^ other)
        self.assertEqual(one.unlike(other), 77)
        self.assertEqual((~one).unlike(~other), 77)

    def test_wide_kinds_that_are_alike_for_long(self):
        # Both have the powers of ten up to 10 ** 76, and then the one has sums that the other has not.
        one = only(10, (0, 1)) & figure_sum(10, 11, 1) & figure_sum(10, 7, 1)
        other = powers_of_ten()
        self.assertRaises(TooWide, lambda: one ^ other)
        self.assertEqual(one.unlike(other), (10 ** 78 - 1) // 9)

    def test_unlike_bases(self):
        self.assertRaises(NoMatch, every(10).unlike, every(9))
        self.assertRaises(NoMatch, just_200().unlike, multiple(10, 7))


class WrongInputs(unittest.TestCase):
    def test_no_number(self):
        for kind in (every(10), ~every(2), multiple(16, 7)):
            for number in wrong_integers(1, GREATEST):
                with self.subTest(number=number):
                    self.assertRaises(NoNumber, kind.count, number)
                    self.assertRaises(NoNumber, kind.after, number)

    def test_no_place(self):
        for kind in (every(10), ~every(2), multiple(16, 7)):
            for place in wrong_integers(1, GREATEST):
                with self.subTest(place=place):
                    self.assertRaises(NoPlace, kind.nth, place)

    def test_an_error_changes_nothing(self):
        kind = multiple(10, 7)
        self.assertRaises(NoNumber, kind.count, 0)
        self.assertRaises(NoPlace, kind.nth, GREATEST + 1)
        self.assertRaises(NoMatch, kind.unlike, every(9))
        self.assertEqual((kind.count(70), kind.nth(10), kind.after(70)), (10, 70, 77))

    def test_the_same_asked_again(self):
        kind = multiple(10, 7) | bears(10, 7)
        told = [kind.count(GREATEST), kind.nth(6), kind.after(69), kind.least(), kind.is_finite()]
        self.assertEqual(kind.after(GREATEST), 10 ** 40 + 3)
        self.assertEqual([kind.count(GREATEST), kind.nth(6), kind.after(69), kind.least(), kind.is_finite()], told)
        self.assertEqual(kind, multiple(10, 7) | bears(10, 7))


if __name__ == "__main__":
    unittest.main()
