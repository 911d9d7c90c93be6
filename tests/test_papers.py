"""Papers of signs, by which the sign of a state is told at any level."""

import copy
import unittest

from buzzround.errors import NoLevel, NoState, TooWide
from buzzround.kinds import bears, every, multiple
from buzzround.rules import Rules
from buzzround.tables import is_sign_paper, plain_machine, sign_at, sign_paper, table
from tests.drawn import turning_wheels
from tests.plain import STRANGE
from tests.rounds import LOTS, TURN

FAR = (301, 1000, 10 ** 9 + 7, 10 ** 40, 10 ** 59 + 13, 10 ** 60 - 1)


def turning(kind):
    return Rules(kind.base(), ((kind, TURN),))


def signs_of(rules, levels):
    """The lists of the signs of so many levels, each of the one below."""
    machine = plain_machine(rules)
    found = [[sign for sign, _ in table(rules, 1)[0]]]
    while len(found) < levels:
        row = []
        for behind in machine[1:]:
            sign = 1
            for state in behind:
                sign *= found[-1][state - 1]
            row.append(sign)
        found.append(row)
    return found


def wheels():
    """Rules, how many unlike lists of signs they have, and the level from which these come again."""
    for lengths, ahead, levels, first in (
        ((12, 25), 0, 300, 0), ((13, 23), 1, 300, 1), ((3, 4, 25), 0, 300, 0), ((3, 100), 0, 300, 0),
        ((13, 23), 0, 299, 0), ((1, 1), 5, 6, 5), ((198,), 1, 199, 1), ((3, 99), 1, 100, 1), ((2, 3, 5, 7), 0, 210, 0),
        ((150,), 40, 190, 40),
    ):
        yield turning(turning_wheels(lengths, ahead)), levels, first


def too_wide():
    """Rules with more than 300 unlike lists of signs."""
    for lengths, ahead in (((7, 43), 0), ((12, 25), 1), ((13, 23), 2), ((100, 99), 0), ((5, 7, 11, 13), 3)):
        yield turning(turning_wheels(lengths, ahead))


class SignPaper(unittest.TestCase):
    def test_signs_of_tables(self):
        for rules in [lot.rules for lot in LOTS] + [rules for rules, _, _ in wheels()]:
            levels, signs, first = sign_paper(rules)
            told = signs_of(rules, levels + 1)
            self.assertEqual((len(signs), signs), (levels, told[:levels]))
            self.assertEqual(len({tuple(row) for row in signs}), levels)
            self.assertEqual(told[levels], signs[first])
            many = min(levels, 140)
            self.assertEqual([[sign for sign, _ in row] for row in table(rules, many)], signs[:many])

    def test_many_unlike_lists(self):
        for rules, levels, first in wheels():
            found = sign_paper(rules)
            self.assertEqual((found[0], len(found[1]), found[2]), (levels, levels, first))

    def test_too_wide(self):
        for rules in too_wide():
            self.assertRaises(TooWide, sign_paper, rules)

    def test_small_ones(self):
        self.assertEqual(sign_paper(Rules(10)), (1, [[1]], 0))
        self.assertEqual(sign_paper(turning(every(2))), (2, [[-1], [1]], 1))
        self.assertEqual(sign_paper(turning(every(3))), (1, [[-1]], 0))
        # Behind a number without a 0 one number of 4 has one, 7 of 16, 37 of 64 and so on.
        self.assertEqual(sign_paper(turning(bears(4, 0))), (2, [[1, -1], [-1, 1]], 1))

    def test_kinds_of_values(self):
        found = sign_paper(LOTS[8].rules)
        self.assertEqual((type(found), len(found)), (tuple, 3))
        levels, signs, first = found
        self.assertEqual((type(levels), type(signs), type(first)), (int, list, int))
        self.assertEqual({type(row) for row in signs}, {list})
        self.assertEqual({type(sign) for row in signs for sign in row}, {int})

    def test_what_was_returned_is_not_kept(self):
        for rules, _, _ in wheels():
            told = copy.deepcopy(sign_paper(rules))
            levels, signs, first = sign_paper(rules)
            for row in signs:
                row[0] = -row[0]
                row.append(1)
            signs.reverse()
            self.assertEqual(sign_paper(rules), told)


class IsSignPaper(unittest.TestCase):
    def test_right_ones(self):
        for rules in [lot.rules for lot in LOTS] + [rules for rules, _, _ in wheels()]:
            self.assertIs(is_sign_paper(rules, sign_paper(rules)), True)

    def test_near_ones(self):
        for rules in [lot.rules for lot in LOTS[::6]] + [turning(turning_wheels((3, 4), 2)), turning(every(2))]:
            paper = sign_paper(rules)
            levels, signs, first = paper
            for level in {0, levels // 2, levels - 1}:
                sign = signs[level][-1]
                for wrong in (-sign, 0, 2 * sign, True, False, None, float(sign), str(sign), [sign], (sign,), {}):
                    near = copy.deepcopy(paper)
                    near[1][level][-1] = wrong
                    self.assertIs(is_sign_paper(rules, near), False, wrong)
                for wrong in (tuple(signs[level]), signs[level] + [1], signs[level][1:], None, 1, "", {}, []):
                    near = copy.deepcopy(paper)
                    near[1][level] = wrong
                    self.assertIs(is_sign_paper(rules, near), False, wrong)
            for near in (
                (levels + 1, signs, first), (levels, signs, first + 1), (levels - 1, signs, first), (levels, signs),
                (levels, signs, first - 1), (levels, signs, first, 0), [levels, signs, first],
                (levels, tuple(signs), first), (levels, signs + [signs[first]], first), (levels, signs[:-1], first),
                (levels, [], first), (float(levels), signs, first), (levels, signs, float(first)),
                (levels, signs, None), (None, signs, first), (levels, None, first), (first, signs, levels),
                (levels + 1, signs + [signs[first]], first + 1), signs, (levels, {0: signs}, first),
                (str(levels), signs, first), (paper,), [paper],
            ):
                self.assertIs(is_sign_paper(rules, near), False, near)
            self.assertIs(is_sign_paper(rules, paper), True)

    def test_true_is_not_1(self):
        self.assertEqual(sign_paper(Rules(10)), (1, [[1]], 0))
        for near in ((True, [[1]], 0), (1, [[True]], 0), (1, [[1]], False), (1.0, [[1]], 0), (1, [[1.0]], 0)):
            self.assertEqual(near, sign_paper(Rules(10)))
            self.assertIs(is_sign_paper(Rules(10), near), False)

    def test_other_values(self):
        for thing in (*STRANGE, 0, 1, (1, 2, 3), ("a", "b", "c"), (1, [], 0), (None, None, None)):
            self.assertIs(is_sign_paper(LOTS[7].rules, thing), False)

    def test_too_wide(self):
        right = sign_paper(Rules(10))
        for rules in too_wide():
            for thing in (right, *STRANGE):
                self.assertRaises(TooWide, is_sign_paper, rules, thing)

    def test_what_is_passed_stays(self):
        rules = LOTS[8].rules
        paper = sign_paper(rules)
        kept = copy.deepcopy(paper)
        is_sign_paper(rules, paper)
        self.assertEqual(paper, kept)


class SignAt(unittest.TestCase):
    def test_at_the_first_levels(self):
        for rules in [lot.rules for lot in LOTS] + [rules for rules, _, _ in wheels()]:
            paper = sign_paper(rules)
            for level, row in enumerate(signs_of(rules, 2 * paper[0] + 5)):
                for state in {1, (rules.size() + 1) // 2, rules.size()}:
                    self.assertEqual(sign_at(paper, state, level), row[state - 1])

    def test_at_any_level(self):
        for rules, levels, first in wheels():
            paper = sign_paper(rules)
            for level in FAR:
                same = level
                if level >= levels:
                    same = first + (level - first) % (levels - first)
                for state in range(1, rules.size() + 1):
                    self.assertEqual(sign_at(paper, state, level), paper[1][same][state - 1])

    def test_each_second_one(self):
        # All numbers turn: an odd number of them is behind one figure of an even base at the level 0 alone.
        paper = sign_paper(turning(every(2)))
        self.assertEqual([sign_at(paper, 1, level) for level in (0, 1, 2, 3, *FAR)], [-1] + [1] * (3 + len(FAR)))
        paper = sign_paper(turning(every(5)))
        self.assertEqual({sign_at(paper, 1, level) for level in range(50)}, {-1})

    def test_by_a_paper_of_no_rules(self):
        paper = (5, [[1, 1], [1, -1], [-1, 1], [-1, -1], [-1, -1]], 2)
        told = [sign_at(paper, 2, level) for level in range(11)]
        self.assertEqual(told, [1, -1, 1, -1, -1, 1, -1, -1, 1, -1, -1])
        self.assertIs(type(sign_at(paper, 1, 7)), int)

    def test_wrong_states_and_levels(self):
        for rules in (Rules(10), LOTS[7].rules, turning(multiple(10, 7))):
            paper = sign_paper(rules)
            for state in (0, -1, rules.size() + 1, -rules.size(), 10 ** 59, *STRANGE):
                self.assertRaises(NoState, sign_at, paper, state, 0)
                for level in (-1, -10 ** 59, *STRANGE):
                    self.assertRaises(NoState, sign_at, paper, state, level)
            for level in (-1, -2, -10 ** 59, *STRANGE):
                self.assertRaises(NoLevel, sign_at, paper, 1, level)
            sign_at(paper, rules.size(), 0)

    def test_what_is_passed_stays(self):
        paper = sign_paper(LOTS[8].rules)
        kept = copy.deepcopy(paper)
        sign_at(paper, 1, 10 ** 50)
        self.assertEqual(paper, kept)


if __name__ == "__main__":
    unittest.main()
