"""Promises [2] and [9] to [11]: rules and which of their rows hold."""

import unittest

from buzzround.errors import NoBase, NoNumber, NoRow, TooWide
from buzzround.kinds import bears, ends, every, figure_sum, multiple, rest
from buzzround.rules import Rules
from tests.plain import GREATEST, STRANGE, figures, just_200, least_size, ones, wrong_integers

BUZZ = ("say", "buzz")
TURN = ("turn",)
AGAIN = ("again",)
EFFECTS = (
    BUZZ, ("say", "a"), ("say", "abcdefgh"), ("say", "zzzzzzzz"), TURN, AGAIN,
    *[("skip", number) for number in range(1, 10)],
)
NO_EFFECTS = (
    ("say",), ("say", ""), ("say", "abcdefghi"), ("say", "Buzz"), ("say", "a b"), ("say", "a1"), ("say", "a-b"),
    ("say", "buzz\n"), ("say", 7), ("say", None), ("say", ["b"]), ("say", "a", "b"), ("say", ("buzz",)),
    ("turn", 1), ("turn", ()), ("again", 1), ("again", None), ("skip",), ("skip", 0), ("skip", 10), ("skip", -1),
    ("skip", True), ("skip", False), ("skip", None), ("skip", "1"), ("skip", 1.0), ("skip", 1, 1), ("skip", [1]),
    ("Turn",), ("turns",), ("",), (None,), (1,), (["turn"],), ("hop", 1), ["turn"], ["say", "buzz"], "turn", *STRANGE,
)


class Made(unittest.TestCase):
    def test_without_rows(self):
        for base in (2, 10, 16):
            for made in (Rules(base), Rules(base, ()), Rules(base=base, rows=())):
                self.assertEqual((made.base(), made.rows(), made.size()), (base, (), 1))
                self.assertEqual([made.holding(number) for number in (1, base, GREATEST)], [[], [], []])

    def test_what_it_was_made_of(self):
        rows = tuple((multiple(10, 2 + at), effect) for at, effect in enumerate(EFFECTS[-6:]))
        made = Rules(10, rows)
        self.assertEqual(made.base(), 10)
        self.assertEqual(made.rows(), rows)
        self.assertIs(type(made.rows()[0]), tuple)
        self.assertIs(type(made.rows()[0][1]), tuple)

    def test_each_effect(self):
        for effect in EFFECTS:
            with self.subTest(effect=effect):
                self.assertEqual(Rules(10, ((every(10), effect),)).rows(), ((every(10), effect),))

    def test_size(self):
        self.assertEqual(Rules(10, ((multiple(10, 7), BUZZ),)).size(), 7)
        self.assertEqual(Rules(10, ((every(10), BUZZ),)).size(), 1)
        rows = ((multiple(10, 7), BUZZ), (bears(10, 7), TURN))
        self.assertEqual(Rules(10, rows).size(), 14)
        self.assertEqual(Rules(10, rows + ((rows[0][0] & rows[1][0], AGAIN),)).size(), 14)
        self.assertEqual(Rules(10, ((multiple(10, 7), BUZZ), (~multiple(10, 7), TURN))).size(), 7)
        # Unlike rests by 7 tell all of it, though each alone would have done with less.
        self.assertEqual(Rules(10, ((rest(10, 3, 1), BUZZ), (rest(10, 3, 2), TURN))).size(), 3)

    def test_least_sizes_by_a_plain_reading(self):
        def told(number):
            return number % 6 == 5, 1 in figures(number, 3), sum(figures(number, 3)) % 4 == 2

        rows = ((rest(3, 6, 5), BUZZ), (bears(3, 1), TURN), (figure_sum(3, 4, 2), AGAIN))
        self.assertEqual(Rules(3, rows).size(), least_size(3, told))

    def test_just_200_and_more(self):
        rows = ((multiple(3, 5), BUZZ), (figure_sum(3, 5, 0), TURN), (multiple(3, 8), AGAIN))
        self.assertEqual(Rules(3, rows).size(), 200)
        wide = (just_200(), BUZZ)
        self.assertEqual(Rules(3, (wide,)).size(), 200)
        self.assertEqual(Rules(3, (wide, *rows, (~just_200(), TURN), (every(3), AGAIN))).size(), 200)
        self.assertRaises(TooWide, Rules, 3, (*rows, (bears(3, 0), TURN)))
        self.assertRaises(TooWide, Rules, 3, (wide, (bears(3, 0), TURN)))
        self.assertRaises(TooWide, Rules, 3, ((bears(3, 0), TURN), wide))
        self.assertRaises(TooWide, Rules, 2, ((ones((11, 7, 2)), BUZZ), (ones((9, 5, 4)), TURN)))
        rows = tuple((multiple(11, number), AGAIN) for number in (2, 3, 5, 7, 8, 9))
        self.assertRaises(TooWide, Rules, 11, rows)
        self.assertEqual(Rules(11, rows[:2] + rows[3:4]).size(), 42)

    def test_rows_that_are_too_wide_only_by_all_of_them(self):
        # The rows tell which kinds hold, so they are wider than what comes of the kinds.
        one, other = just_200(), bears(3, 0)
        self.assertEqual((one & ~one | other).size(), 2)
        self.assertRaises(TooWide, Rules, 3, ((one, BUZZ), (~one, BUZZ), (other, BUZZ)))


class Holding(unittest.TestCase):
    def test_small_numbers(self):
        rows = (
            (multiple(10, 7), BUZZ), (bears(10, 7), TURN), (ends(10, 3), ("skip", 2)),
            (figure_sum(10, 5, 1), AGAIN), (every(10), TURN), (~every(10), BUZZ),
        )
        made = Rules(10, rows)
        for number in range(1, 1200):
            told = figures(number, 10)
            plain = [number % 7 == 0, 7 in told, number % 10 == 3, sum(told) % 5 == 1, True, False]
            self.assertEqual(made.holding(number), [at for at in range(6) if plain[at]])

    def test_great_numbers(self):
        for base in (2, 16):
            made = Rules(base, ((bears(base, 0), BUZZ), (rest(base, 11, 10), TURN), (multiple(base, 5), AGAIN)))
            for number in range(GREATEST - 60, GREATEST + 1):
                plain = [0 in figures(number, base), number % 11 == 10, number % 5 == 0]
                self.assertEqual(made.holding(number), [at for at in range(3) if plain[at]])

    def test_no_number(self):
        for made in (Rules(10), Rules(2, ((every(2), TURN),))):
            for number in wrong_integers(1, GREATEST):
                with self.subTest(number=number):
                    self.assertRaises(NoNumber, made.holding, number)

    def test_a_returned_list_is_the_callers_own(self):
        made = Rules(10, ((every(10), TURN), (every(10), AGAIN)))
        told = made.holding(5)
        told.append(9)
        told[0] = 7
        self.assertEqual(made.holding(5), [0, 1])
        self.assertEqual(made.holding(6), [0, 1])
        self.assertIsNot(made.holding(5), made.holding(5))
        self.assertEqual(made, Rules(10, ((every(10), TURN), (every(10), AGAIN))))


class Equality(unittest.TestCase):
    def test_equal_rows(self):
        one = Rules(10, ((multiple(10, 6), BUZZ), (~bears(10, 7), ("skip", 3))))
        other = Rules(10, ((multiple(10, 2) & multiple(10, 3), ("say", "buzz")), (~~~bears(10, 7), ("skip", 3))))
        self.assertTrue(one == other)
        self.assertFalse(one != other)
        self.assertEqual(Rules(10), Rules(10, ()))

    def test_unlike_rows(self):
        one, other = (multiple(10, 6), BUZZ), (bears(10, 7), TURN)
        made = Rules(10, (one, other))
        for rows in (
            (other, one), (one,), (other,), (), (one, other, other), (one, (bears(10, 7), AGAIN)),
            (one, (bears(10, 8), TURN)), ((multiple(10, 6), ("say", "bus")), other),
        ):
            self.assertFalse(made == Rules(10, rows))
            self.assertTrue(made != Rules(10, rows))
        self.assertNotEqual(Rules(10, ((every(10), ("skip", 1)),)), Rules(10, ((every(10), ("skip", 2)),)))

    def test_unlike_bases(self):
        self.assertNotEqual(Rules(10), Rules(9))
        self.assertNotEqual(Rules(10, ((every(10), TURN),)), Rules(9, ((every(9), TURN),)))

    def test_equal_to_nothing_else(self):
        for value in (10, (10, ()), *STRANGE, every(10), Rules):
            self.assertFalse(Rules(10) == value)
            self.assertTrue(Rules(10) != value)


class WrongInputs(unittest.TestCase):
    def refused_at(self, base, rows):
        with self.assertRaises(NoRow) as caught:
            Rules(base, rows)
        return caught.exception.index

    def test_no_base(self):
        for base in wrong_integers(2, 16):
            with self.subTest(base=base):
                self.assertRaises(NoBase, Rules, base)
                self.assertRaises(NoBase, Rules, base, None)
                self.assertRaises(NoBase, Rules, base, ((every(10), TURN),))

    def test_rows_are_no_tuple(self):
        row = (every(10), TURN)
        for rows in (None, True, False, 0, 7, "", "rows", [], [row], {}, {1: row}, 2.5, b""):
            with self.subTest(rows=rows):
                self.assertEqual(self.refused_at(10, rows), 0)

    def test_each_wrong_row_at_each_index(self):
        row = (every(10), TURN)
        wrong = [
            *STRANGE, "turn", every(10), list(row), (every(10),), (TURN,), (every(10), TURN, TURN), (TURN, every(10)),
            (every(9), TURN), (every(16), TURN), (None, TURN), (7, TURN), (True, TURN), ("every", TURN), ((), TURN),
            (every, TURN), ([every(10)], TURN),
        ]
        for value in wrong + [(every(10), effect) for effect in NO_EFFECTS]:
            for at in range(6):
                with self.subTest(value=value, at=at):
                    self.assertEqual(self.refused_at(10, (row,) * at + (value,) + (row,) * (5 - at)), at)
                    self.assertEqual(self.refused_at(10, (row,) * at + (value,)), at)

    def test_a_row_behind_six_others(self):
        row = (every(10), TURN)
        self.assertEqual(len(Rules(10, (row,) * 6).rows()), 6)
        self.assertEqual(self.refused_at(10, (row,) * 7), 6)
        self.assertEqual(self.refused_at(10, (row,) * 9), 6)
        self.assertEqual(self.refused_at(10, (row,) * 6 + (None,)), 6)
        self.assertEqual(self.refused_at(10, (row,) * 7 + (None,)), 6)
        for at in range(6):
            self.assertEqual(self.refused_at(10, (row,) * at + (None,) + (row,) * 7), at)

    def test_the_first_wrong_row_is_told(self):
        row = (every(10), TURN)
        self.assertEqual(self.refused_at(10, (row, None, row, (every(9), TURN))), 1)
        self.assertEqual(self.refused_at(10, (row, (every(9), TURN), None)), 1)

    def test_a_wrong_row_comes_ahead_of_width(self):
        rows = ((just_200(), BUZZ), (bears(3, 0), TURN))
        self.assertRaises(TooWide, Rules, 3, rows)
        self.assertEqual(self.refused_at(3, rows + (None,)), 2)
        self.assertEqual(self.refused_at(3, rows + ((bears(3, 0), TURN),) * 5), 6)


if __name__ == "__main__":
    unittest.main()
