"""Plain machines, tables, and places by these alone."""

import copy
import unittest

from buzzround.errors import NoLevels, NoNumber, TooShort
from buzzround.kinds import bears, every, figure_sum, multiple
from buzzround.places import direction, place
from buzzround.rules import Rules
from buzzround.tables import is_table, place_by, plain_machine, plain_marks, table
from tests.drawn import kind_drawn, least_drawing, lots_told_apart, some_drawing, state_of
from tests.plain import GREATEST, STRANGE, figures, just_200, wrong_integers
from tests.rounds import AGAIN, LOTS, TURN, step_and_sign


def folded(summaries):
    """The summary of numbers side by side, of those of its parts."""
    sign, move = 1, 0
    for part_sign, part_move in summaries:
        move += sign * part_move
        sign *= part_sign
    return (sign, move)


def table_of(machine, first, levels):
    """A table whose first level is told, level by level."""
    found = [first]
    while len(found) < levels:
        found.append([folded([found[-1][behind - 1] for behind in row]) for row in machine[1:]])
    return found


def first_level(rules, marks):
    """The summaries of single numbers."""
    found = []
    for mark in marks[1:]:
        step, sign = step_and_sign([rules.rows()[at][1] for at in mark])
        found.append((sign, sign * step))
    return found


def wide_rules():
    """Rules with 200 states."""
    kind = just_200()
    return Rules(3, ((kind, TURN), (~kind, ("skip", 9)), (kind, AGAIN)))


class Machines(unittest.TestCase):
    def test_fed_with_numbers(self):
        for lot in LOTS:
            rules = lot.rules
            machine, marks = plain_machine(rules), plain_marks(rules)
            with self.subTest(base=lot.base, size=rules.size()):
                self.assertEqual((len(machine), len(marks)), (rules.size() + 1, rules.size() + 1))
                self.assertEqual((machine[0][0], marks[0]), (None, ()))
                mixed = [pow(3, at, 2 ** 127 - 1) for at in range(40, 140)]
                met = 0
                for number in [*range(1, 1500), *mixed, GREATEST - 1, GREATEST]:
                    state = state_of(machine, number)
                    self.assertEqual(list(marks[state]), rules.holding(number))
                    self.assertEqual(marks[state], tuple(
                        at for at, (told, effect) in enumerate(lot.rows) if told(number)
                    ))
                    if number < 1500:
                        # States have their numbers as numbers from 1 on come to them.
                        self.assertLessEqual(state, met + 1)
                        met = max(met, state)

    def test_each_state_is_met_first_in_its_order(self):
        for lot in LOTS:
            machine = plain_machine(lot.rules)
            met, number = 0, 0
            while met < lot.rules.size() and number < 50000:
                number += 1
                state = state_of(machine, number)
                self.assertLessEqual(state, met + 1)
                met = max(met, state)
            self.assertTrue(met == lot.rules.size() or number == 50000)

    def test_it_is_the_least_one(self):
        for rules in [lot.rules for lot in LOTS] + [wide_rules()]:
            machine, marks = plain_machine(rules), plain_marks(rules)
            self.assertEqual(len(machine) - 1, rules.size())
            # No two states tell the same.
            self.assertEqual(len(set(lots_told_apart(machine, [None, *marks[1:]]))), len(machine))

    def test_of_kinds_that_are_drawn(self):
        for base, size, seed in ((2, 9, 1), (3, 14, 2), (10, 30, 3), (16, 20, 4), (7, 60, 5), (2, 150, 6)):
            rows, inside = least_drawing(*some_drawing(base, size, seed))
            rules = Rules(base, ((kind_drawn(rows, inside), TURN),))
            with self.subTest(base=base, size=size):
                self.assertEqual(plain_machine(rules), rows)
                self.assertEqual(plain_marks(rules), [(0,) if at in inside else () for at in range(len(rows))])

    def test_without_rows(self):
        self.assertEqual(plain_machine(Rules(3)), [[None, 1, 1], [1, 1, 1]])
        self.assertEqual(plain_marks(Rules(3)), [(), ()])
        rules = Rules(2, ((bears(2, 0), TURN),))
        self.assertEqual(plain_machine(rules), [[None, 1], [2, 1], [2, 2]])
        self.assertEqual(plain_marks(rules), [(), (), (0,)])

    def test_kinds_of_values(self):
        rules = LOTS[7].rules
        machine, marks = plain_machine(rules), plain_marks(rules)
        self.assertEqual({type(machine), *[type(row) for row in machine], type(marks)}, {list})
        self.assertEqual({type(state) for row in machine[1:] for state in row}, {int})
        self.assertEqual({type(mark) for mark in marks}, {tuple})
        self.assertEqual({type(at) for mark in marks for at in mark}, {int})

    def test_what_was_returned_is_not_kept(self):
        rules = LOTS[7].rules
        for function in (plain_machine, plain_marks):
            told = copy.deepcopy(function(rules))
            found = function(rules)
            if function is plain_machine:
                for row in found:
                    row.reverse()
                    row.append(7)
            found.reverse()
            found[0] = None
            self.assertEqual(function(rules), told)
        self.assertEqual(place(rules, 12345), place(LOTS[7].rules, 12345))


class Tables(unittest.TestCase):
    def test_levels_come_of_the_levels_below(self):
        for lot in LOTS:
            machine, marks = plain_machine(lot.rules), plain_marks(lot.rules)
            told = table_of(machine, first_level(lot.rules, marks), 12)
            self.assertEqual(table(lot.rules, 12), told)
            self.assertEqual(table(lot.rules, 1), told[:1])

    def test_summaries_are_what_counting_on_gives(self):
        for lot in LOTS:
            rules = lot.rules
            machine = plain_machine(rules)
            levels = table(rules, 9)
            met = {}
            for number in range(1, 200):
                met.setdefault(state_of(machine, number), number)
            for state, number in met.items():
                level = 0
                while level < 9 and lot.base ** level < 300:
                    spot, sign = 0, 1
                    for one in range(number * lot.base ** level, (number + 1) * lot.base ** level):
                        step, turned = step_and_sign(lot.effects(one))
                        sign *= turned
                        spot += sign * step
                    self.assertEqual(levels[level][state - 1], (sign, spot))
                    level += 1

    def test_summaries_are_what_places_give(self):
        for lot in LOTS[::3]:
            rules = lot.rules
            machine = plain_machine(rules)
            levels = table(rules, 130)
            for number in (1, 2, 3, 7, 77, 12345):
                level = 1
                while (number + 1) * lot.base ** level < GREATEST:
                    first, behind = number * lot.base ** level, (number + 1) * lot.base ** level
                    ahead = direction(rules, first)
                    told = (ahead * direction(rules, behind), ahead * (place(rules, behind) - place(rules, first)))
                    self.assertEqual(levels[level][state_of(machine, number) - 1], told)
                    level += 7

    def test_great_tables(self):
        for rules in (wide_rules(), LOTS[7].rules, LOTS[8].rules, Rules(16, ((every(16), ("skip", 9)),) * 6)):
            machine, marks = plain_machine(rules), plain_marks(rules)
            told = table_of(machine, first_level(rules, marks), 140)
            self.assertEqual(table(rules, 140), told)
            self.assertEqual([len(level) for level in told], [rules.size()] * 140)
        self.assertEqual(told[139], [(1, 55 * 16 ** 139)])

    def test_levels_in_any_order(self):
        kind = multiple(10, 7) | bears(10, 7)
        rules = Rules(10, ((kind, TURN), (bears(10, 3), ("skip", 2))))
        told = table(Rules(10, rules.rows()), 100)
        for levels in (3, 50, 1, 100, 7):
            self.assertEqual(table(rules, levels), told[:levels])

    def test_wrong_levels(self):
        rules = LOTS[6].rules
        for levels in wrong_integers(1, 140):
            with self.subTest(levels=levels):
                self.assertRaises(NoLevels, table, rules, levels)
        self.assertEqual(len(table(rules, 140)), 140)

    def test_kinds_of_values(self):
        levels = table(LOTS[7].rules, 5)
        self.assertEqual({type(levels), *[type(level) for level in levels]}, {list})
        self.assertEqual({type(one) for level in levels for one in level}, {tuple})
        self.assertEqual({type(part) for level in levels for one in level for part in one}, {int})

    def test_what_was_returned_is_not_kept(self):
        rules = LOTS[7].rules
        told = copy.deepcopy(table(rules, 6))
        found = table(rules, 6)
        for level in found:
            level.reverse()
            level[0] = (1, 99)
        found.append(found[0])
        self.assertEqual(table(rules, 6), told)
        self.assertTrue(is_table(rules, told))


class IsTable(unittest.TestCase):
    def test_right_ones(self):
        for lot in LOTS:
            levels = table(lot.rules, 20)
            for many in (1, 2, 13, 20):
                self.assertIs(is_table(lot.rules, levels[:many]), True)
        for rules in (wide_rules(), LOTS[6].rules):
            self.assertIs(is_table(rules, table(rules, 140)), True)

    def test_near_ones(self):
        for lot in LOTS[::4]:
            rules = lot.rules
            told = table(rules, 6)
            for level in (0, 3, 5):
                for state in (0, rules.size() - 1):
                    sign, move = told[level][state]
                    for wrong in (
                        (-sign, move), (sign, move + 1), (sign, -move - 1), (sign, move, 0), (sign,), (), [sign, move],
                        (sign == 1, move), (sign, move == 1), (sign, None), (sign, str(move)), (float(sign), move),
                        (sign, [move]), ((sign, move),), None, 0, "ab", {0: sign, 1: move},
                    ):
                        near = copy.deepcopy(told)
                        near[level][state] = wrong
                        self.assertIs(is_table(rules, near), False, wrong)
                near = copy.deepcopy(told)
                near[level].append(near[level][0])
                self.assertIs(is_table(rules, near), False)
                near = copy.deepcopy(told)
                near[level].pop()
                self.assertIs(is_table(rules, near), False)
                for wrong in (tuple(told[level]), {}, None, "", (), dict(enumerate(told[level])), 1, []):
                    near = copy.deepcopy(told)
                    near[level] = wrong
                    self.assertIs(is_table(rules, near), False)
            self.assertIs(is_table(rules, told), True)

    def test_true_is_not_1(self):
        rules = Rules(10)
        self.assertEqual(table(rules, 1), [[(1, 1)]])
        for near in ([[(True, 1)]], [[(1, True)]], [[(1.0, 1)]], [[(1, 1.0)]]):
            self.assertEqual(near, table(rules, 1))
            self.assertIs(is_table(rules, near), False)

    def test_other_values(self):
        rules = LOTS[7].rules
        told = table(rules, 4)
        for thing in (*STRANGE, 0, 1, 4, tuple(told), told[::-1], told[1:], [*told, told], [told], told + [[]],
                      [tuple(level) for level in told], [[]], [None], [[None]], dict(enumerate(told)), "ab"):
            self.assertIs(is_table(rules, thing), False)
        self.assertIs(is_table(LOTS[6].rules, told), False)

    def test_too_many_levels(self):
        for rules in (LOTS[6].rules, Rules(2), LOTS[8].rules):
            told = table(rules, 140)
            self.assertIs(is_table(rules, told), True)
            more = table_of(plain_machine(rules), told[0], 141)
            self.assertEqual(more[:140], told)
            self.assertIs(is_table(rules, more), False)

    def test_what_is_passed_stays(self):
        rules = LOTS[7].rules
        told = table(rules, 4)
        kept = copy.deepcopy(told)
        is_table(rules, told)
        self.assertEqual(told, kept)
        told[0][0] = (7, 7)
        self.assertEqual(table(rules, 4), kept)


class PlaceBy(unittest.TestCase):
    def test_like_place(self):
        for lot in LOTS:
            rules = lot.rules
            machine, thing = plain_machine(rules), table(rules, 133)
            far = [pow(3, at, 2 ** 127 - 1) for at in range(90, 110)]
            for number in [*range(1, 400), *far, 10 ** 20, GREATEST - 1, GREATEST]:
                self.assertEqual(place_by(machine, thing, number), place(rules, number))

    def test_by_machines_and_tables_of_no_rules(self):
        for base, size, seed in ((2, 7, 1), (3, 12, 2), (10, 5, 3), (16, 40, 4)):
            machine = some_drawing(base, size, seed)[0]
            first = [((-1) ** (state * seed // 3), (state * 37 * seed) % 1001 - 500) for state in range(1, size + 1)]
            thing = table_of(machine, first, 40)
            spot, sign = 0, 1
            for number in range(1, 3000):
                with self.subTest(base=base, number=number):
                    self.assertEqual(place_by(machine, thing, number), spot)
                turned, move = first[state_of(machine, number) - 1]
                spot += sign * move
                sign *= turned

    def test_just_enough_levels(self):
        for lot in LOTS[::5]:
            machine, thing = plain_machine(lot.rules), table(lot.rules, 140)
            for number in (1, lot.base - 1, lot.base, lot.base ** 5 - 1, lot.base ** 5, GREATEST):
                many = len(figures(number, lot.base))
                self.assertEqual(place_by(machine, thing[:many], number), place(lot.rules, number))
                self.assertRaises(TooShort, place_by, machine, thing[:many - 1], number)
        self.assertRaises(TooShort, place_by, machine, [], 1)

    def test_wrong_numbers(self):
        machine, thing = plain_machine(LOTS[7].rules), table(LOTS[7].rules, 50)
        for number in wrong_integers(1, GREATEST):
            with self.subTest(number=number):
                self.assertRaises(NoNumber, place_by, machine, thing, number)
                self.assertRaises(NoNumber, place_by, machine, [], number)

    def test_what_is_passed_stays(self):
        machine, thing = plain_machine(LOTS[7].rules), table(LOTS[7].rules, 41)
        kept = copy.deepcopy((machine, thing))
        told = place_by(machine, thing, 10 ** 39 + 7)
        self.assertEqual((machine, thing), kept)
        machine[1][0], thing[0][0] = 1, (-1, 7)
        self.assertEqual(place_by(*kept, 10 ** 39 + 7), told)
        self.assertIs(type(told), int)

    def test_digit_sums(self):
        rules = Rules(10, ((figure_sum(10, 9, 0), ("skip", 1)),))
        self.assertEqual(place_by(plain_machine(rules), table(rules, 3), 100), 99 + 11)


if __name__ == "__main__":
    unittest.main()
