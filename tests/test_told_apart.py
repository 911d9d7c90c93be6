"""Promises [1] to [3] and [15]: whether two lots of rules give each number the same place."""

import unittest

from buzzround.always import told_apart
from buzzround.errors import NoMatch, TooWide
from buzzround.kinds import bears, ends, every, multiple, rest
from buzzround.places import place
from buzzround.rules import Rules
from tests.plain import GREATEST, STRANGE, just_200, ones
from tests.rounds import AGAIN, LOTS, TURN, counted_on, nines, repeated, rests_alone, steps_only_in

BUZZ = ("say", "buzz")


class SmallNumbers(unittest.TestCase):
    def test_against_plain_counting(self):
        last = 200
        places = [[where for where, _, _, _ in counted_on(lot, last)] for lot in LOTS]
        compared = 0
        for one, lot in enumerate(LOTS):
            for other in [at for at in range(len(LOTS)) if LOTS[at].base == lot.base]:
                with self.subTest(one=one, other=other):
                    try:
                        found = told_apart(lot.rules, LOTS[other].rules)
                    except TooWide:
                        self.assertGreater(lot.rules.size() * LOTS[other].rules.size(), 400)
                        continue
                    compared += 1
                    unlike = [a != b for a, b in zip(places[one], places[other])]
                    if True in unlike:
                        self.assertEqual(found, unlike.index(True) + 1)
                    elif found is not None:
                        self.check_late(lot.rules, LOTS[other].rules, found)
        self.assertGreater(compared, 150)

    def check_late(self, rules, other, found):
        self.assertGreater(found, 200)
        self.assertNotEqual(place(rules, found), place(other, found))
        for number in range(found - 50, found):
            self.assertEqual(place(rules, number), place(other, number))

    def test_changed_rows(self):
        # A lot against itself without a row.
        for at, lot in enumerate(LOTS):
            seen = [where for where, _, _, _ in counted_on(lot, 200)]
            for without in range(len(lot.rows)):
                rows = lot.rules.rows()
                other = Rules(lot.base, rows[:without] + rows[without + 1:])
                unlike = [number for number in range(1, 201) if place(other, number) != seen[number - 1]]
                found = told_apart(lot.rules, other)
                with self.subTest(at=at, without=without):
                    self.assertEqual(told_apart(other, lot.rules), found)
                    if unlike:
                        self.assertEqual(found, unlike[0])
                    elif found is not None:
                        self.check_late(lot.rules, other, found)

    def test_rests_alone_by_their_period(self):
        for lot, period in rests_alone():
            rows = lot.rules.rows()
            for without in range(len(rows)):
                other = Rules(lot.base, rows[:without] + rows[without + 1:])
                # What both do behind two periods is what they did before.
                seen = [where for where, _, _, _ in counted_on(lot, 4 * period)]
                unlike = [at for at in range(1, 4 * period + 1) if place(other, at) != seen[at - 1]]
                self.assertEqual(told_apart(lot.rules, other), unlike[0] if unlike else None)


class Alike(unittest.TestCase):
    def same(self, base, rows, others):
        self.assertIs(told_apart(Rules(base, tuple(rows)), Rules(base, tuple(others))), None)

    def test_with_itself(self):
        for lot in LOTS:
            self.assertIs(told_apart(lot.rules, lot.rules), None)
            self.assertIs(told_apart(lot.rules, Rules(lot.base, lot.rules.rows())), None)
            self.assertIs(told_apart(lot.rules, Rules(lot.base, lot.rules.rows()[::-1])), None)

    def test_what_is_said_gives_no_place(self):
        self.same(10, [(multiple(10, 7), BUZZ), (bears(10, 7), ("say", "a"))], [])
        self.same(2, [(multiple(2, 7), BUZZ), (multiple(2, 5), TURN)], [(multiple(2, 5), TURN), (every(2), BUZZ)])

    def test_effects_that_come_to_the_same(self):
        kind, other = multiple(10, 7), bears(10, 3)
        self.same(10, [(kind, TURN), (kind, TURN)], [])
        self.same(10, [(kind, TURN)] * 5 + [(other, AGAIN)], [(other, AGAIN), (kind, TURN), (other, AGAIN)])
        self.same(10, [(kind, AGAIN), (kind, ("skip", 1))], [])
        self.same(10, [(kind, ("skip", 2)), (kind, ("skip", 3))], [(kind, ("skip", 5))])
        self.same(10, [(kind, AGAIN), (kind, ("skip", 9))], [(kind, ("skip", 8))])
        self.same(10, [(kind, TURN), (other, TURN)], [(kind ^ other, TURN)])
        self.same(10, [(multiple(10, 2), ("skip", 1)), (multiple(10, 3), ("skip", 1))],
                  [(multiple(10, 6), ("skip", 2)), (multiple(10, 2) ^ multiple(10, 3), ("skip", 1))])

    def test_directions_where_the_turn_stands(self):
        self.same(10, [(every(10), AGAIN)], [(every(10), AGAIN), (multiple(10, 3), TURN)])
        # Both stand at 1 of four numbers. The one turns about there, the other one at the next number.
        stands = (rest(10, 4, 1), AGAIN)
        self.same(10, [stands, (rest(10, 4, 1), TURN)], [stands, (rest(10, 4, 2), TURN)])
        self.same(2, [(rest(2, 4, 1), AGAIN), (rest(2, 4, 1), TURN)], [(rest(2, 4, 1), AGAIN), (rest(2, 4, 2), TURN)])

    def test_opposite_directions_are_told_by_the_next_step(self):
        stands = (~ends(10, 5), AGAIN)
        self.assertEqual(told_apart(Rules(10, (stands, (ends(10, 2), TURN))), Rules(10, (stands,))), 6)
        turned = (stands, (ends(10, 2), TURN), (ends(10, 4), TURN))
        self.assertIs(told_apart(Rules(10, turned), Rules(10, (stands,))), None)


class Unlike(unittest.TestCase):
    def test_by_the_first_number(self):
        for effect in (TURN, AGAIN, ("skip", 1), ("skip", 9)):
            for base in (2, 10, 16):
                self.assertEqual(told_apart(Rules(base, ((every(base), effect),)), Rules(base)), 2)
                self.assertEqual(told_apart(Rules(base), Rules(base, ((every(base), effect),))), 2)

    def test_by_a_kind(self):
        for kind in (multiple(10, 12), bears(10, 7), nines(5)):
            for effect in (TURN, AGAIN, ("skip", 3)):
                self.assertEqual(told_apart(Rules(10, ((kind, effect),)), Rules(10)), kind.least() + 1)

    def test_late(self):
        for length in (20, 39):
            for effect in (TURN, ("skip", 1), ("skip", 9)):
                one, other = steps_only_in(nines(length)), steps_only_in(nines(length), (effect,))
                self.assertEqual(told_apart(one, other), 10 ** length)
            self.assertEqual(told_apart(steps_only_in(nines(length)), Rules(10, ((every(10), AGAIN),))), 10 ** length)

    def test_just_at_and_just_beyond_the_greatest_number(self):
        late = nines(40)
        self.assertEqual(told_apart(Rules(10, ((late, AGAIN),)), Rules(10)), GREATEST)
        self.assertEqual(told_apart(Rules(10, ((late, TURN),)), Rules(10)), GREATEST)
        # The direction is another one from 10 ** 40 on. It is told by the next step, which is there.
        stands = (~ends(10, 0), AGAIN)
        self.assertIs(told_apart(Rules(10, (stands, (late, TURN))), Rules(10, (stands,))), None)
        stands = (~ends(10, 9), AGAIN)
        self.assertEqual(told_apart(Rules(10, (stands, (late, TURN))), Rules(10, (stands,))), GREATEST)

    def test_beyond_the_greatest_number(self):
        self.assertIs(told_apart(Rules(10, ((nines(41), TURN),)), Rules(10)), None)
        self.assertEqual(nines(41).least(), 10 ** 41 - 1)
        self.assertIs(told_apart(Rules(2, ((ones((11, 7, 2)), AGAIN),)), Rules(2)), None)
        self.assertEqual(ones((11, 7, 2)).least(), 2 ** 154 - 1)

    def test_a_step_at_the_number_ahead(self):
        self.assertEqual(told_apart(Rules(2, ((ones((11, 12)), TURN),)), Rules(2)), 2 ** 132)
        self.assertLess(2 ** 132, GREATEST)


class Width(unittest.TestCase):
    def test_just_400_and_one_more(self):
        # 396 states for the ones, one for what is neither, and three or four for the twos.
        one = Rules(3, ((repeated(3, 1, ((9, 0), (4, 0))), TURN),))
        for by, left in ((3, 0), (8, 0)):
            other = Rules(3, ((repeated(3, 1, ((11, 0),)), TURN), (repeated(3, 2, ((by, left),)), TURN)))
            if by == 3:
                # The least number of both lots is 222 in the base 3.
                self.assertEqual((told_apart(one, other), told_apart(other, one)), (27, 27))
            else:
                self.assertRaises(TooWide, told_apart, one, other)
                self.assertRaises(TooWide, told_apart, other, one)

    def test_four_hundred_states_of_two_wide_lots(self):
        wide = Rules(3, ((just_200(), TURN),))
        self.assertEqual(told_apart(wide, Rules(3, ((bears(3, 0), ("skip", 1)),))), 4)
        self.assertIs(told_apart(wide, wide), None)
        self.assertRaises(TooWide, told_apart, wide, Rules(3, ((multiple(3, 7), TURN),)))
        self.assertRaises(TooWide, told_apart, Rules(3, ((multiple(3, 7), BUZZ),)), wide)

    def test_it_is_not_told_what_comes_out_but_which_hold(self):
        said = Rules(3, ((just_200(), BUZZ),))
        self.assertRaises(TooWide, told_apart, said, Rules(3, ((multiple(3, 7), BUZZ),)))


class WrongInputs(unittest.TestCase):
    def test_unlike_bases(self):
        for one in (Rules(2), LOTS[7].rules, Rules(3, ((just_200(), TURN),))):
            for other in (Rules(9), Rules(16, ((multiple(16, 7), TURN),))):
                self.assertRaises(NoMatch, told_apart, one, other)
                self.assertRaises(NoMatch, told_apart, other, one)

    def test_what_is_no_rules_has_no_base(self):
        for other in (7, every, *STRANGE):
            self.assertRaises(NoMatch, told_apart, Rules(10), other)

    def test_unlike_bases_come_ahead_of_width(self):
        wide = Rules(3, ((just_200(), TURN),))
        self.assertRaises(NoMatch, told_apart, wide, Rules(10, ((multiple(10, 7), TURN),)))

    def test_the_same_asked_again(self):
        one, other = LOTS[6].rules, Rules(10)
        for _ in range(2):
            self.assertEqual(told_apart(one, other), 8)
            self.assertRaises(NoMatch, told_apart, one, Rules(9))
            self.assertEqual(one, Rules(10, one.rows()))


if __name__ == "__main__":
    unittest.main()
