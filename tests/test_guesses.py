"""Promises [1] to [4] and [17]: which numbers of people fit what was seen."""

import unittest

from buzzround.errors import NoCounts, NoLook, NoNumber, NoPeople
from buzzround.guesses import least_look, people_for
from buzzround.kinds import every, figure_sum, rest
from buzzround.places import place, speaker
from buzzround.rules import Rules
from tests.plain import GREATEST, STRANGE, only, wrong_integers
from tests.rounds import AGAIN, LOTS, TURN, counted_on, steps_only_in


def plain_people(places, looks, most):
    """The numbers of people that fit, one by one."""
    return [
        people for people in range(1, most + 1)
        if all(person < people and places(number) % people == person for number, person in looks)
    ]


class PeopleFor(unittest.TestCase):
    def test_against_plain_counting(self):
        for at, lot in enumerate(LOTS):
            seen = [where for where, _, _, _ in counted_on(lot, 300)]
            places = lambda number: seen[number - 1]
            for people in (1, 2, 3, 7, 64):
                for numbers in ((5,), (60, 61), (200, 30, 300, 30), (1, 299)):
                    looks = [(number, places(number) % people) for number in numbers]
                    with self.subTest(at=at, people=people, numbers=numbers):
                        found = people_for(lot.rules, looks, 150)
                        self.assertEqual(found, plain_people(places, looks, 150))
                        self.assertIn(people, found)

    def test_great_numbers(self):
        for at, lot in enumerate(LOTS):
            numbers = (GREATEST, GREATEST - at, 10 ** 25 + at)
            told = {number: place(lot.rules, number) for number in numbers}
            for people in (7, 100, 997, 9999):
                looks = [(number, told[number] % people) for number in numbers]
                with self.subTest(at=at, people=people):
                    found = people_for(lot.rules, looks, 10000)
                    self.assertEqual(found, plain_people(told.get, looks, 10000))
                    self.assertIn(people, found)

    def test_no_looks(self):
        for rules in (Rules(10), LOTS[7].rules):
            self.assertEqual(people_for(rules, [], 1), [1])
            self.assertEqual(people_for(rules, [], 7), [1, 2, 3, 4, 5, 6, 7])
            self.assertEqual(people_for(rules, [], 10000), list(range(1, 10001)))

    def test_looks_that_fit_all_some_and_none(self):
        rules = Rules(10)
        self.assertEqual(people_for(rules, [(1, 0)], 5), [1, 2, 3, 4, 5])
        self.assertEqual(people_for(rules, [(13, 0)], 20), [1, 2, 3, 4, 6, 12])
        self.assertEqual(people_for(rules, [(13, 2)], 20), [5, 10])
        self.assertEqual(people_for(rules, [(13, 2), (21, 0)], 20), [5, 10])
        self.assertEqual(people_for(rules, [(13, 2), (22, 1)], 20), [5, 10])
        self.assertEqual(people_for(rules, [(13, 2), (22, 2)], 20), [])
        self.assertEqual(people_for(rules, [(13, 11)], 20), [])
        self.assertEqual(people_for(rules, [(GREATEST, 0), (GREATEST, 1)], 10000), [])

    def test_more_people_than_persons_that_are_told(self):
        rules = Rules(10)
        # The place of 6 is 5: of five or fewer people nobody is the person 5.
        self.assertEqual(people_for(rules, [(6, 5)], 9), [6, 7, 8, 9])
        self.assertEqual(people_for(rules, [(6, 5)], 5), [])
        self.assertEqual(people_for(rules, [(6, 5)], 6), [6])
        self.assertEqual(people_for(rules, [(1, 0), (6, 5), (2, 1)], 8), [6, 7, 8])
        self.assertEqual(people_for(rules, [(6, 10 ** 59)], 10000), [])
        self.assertEqual(people_for(rules, [(10001, 9999)], 10000), [])
        self.assertEqual(people_for(rules, [(10000, 9999)], 10000), [10000])
        self.assertEqual(people_for(rules, [(GREATEST, 10 ** 39)], 10000), [])

    def test_places_back(self):
        rules = Rules(10, ((rest(10, 12, 1), TURN),))
        self.assertEqual([place(rules, number) for number in (1, 2, 3, 7)], [0, -1, -2, -6])
        self.assertEqual(people_for(rules, [(7, 0)], 10), [1, 2, 3, 6])
        self.assertEqual(people_for(rules, [(7, 4)], 12), [5, 10])
        self.assertEqual(people_for(rules, [(2, 9)], 12), [10])
        self.assertEqual(people_for(Rules(10, ((every(10), AGAIN),)), [(GREATEST, 0), (7, 0)], 3), [1, 2, 3])
        self.assertEqual(people_for(Rules(10, ((every(10), AGAIN),)), [(GREATEST, 1)], 10000), [])

    def test_three_hundred_looks(self):
        for lot in LOTS[6:10]:
            looks = [(GREATEST - at * 10 ** 37, speaker(lot.rules, 60, GREATEST - at * 10 ** 37)) for at in range(300)]
            found = people_for(lot.rules, looks, 10000)
            self.assertIn(60, found)
            for people in found:
                self.assertTrue(all(place(lot.rules, number) % people == person for number, person in looks[:40]))


class LeastLook(unittest.TestCase):
    def test_against_plain_counting(self):
        for at, lot in enumerate(LOTS):
            seen = [where for where, _, _, _ in counted_on(lot, 400)]
            for counts in ([2, 3], [7, 5, 6], [100, 99, 1], [1, 2], [10, 9, 8, 7, 6, 5, 4, 3, 2, 1], [64, 32]):
                unlike = [number for number in range(1, 401)
                          if len({seen[number - 1] % people for people in counts}) == len(counts)]
                for most in (1, 20, 400):
                    inside = [number for number in unlike if number <= most]
                    with self.subTest(at=at, counts=counts, most=most):
                        self.assertEqual(least_look(lot.rules, counts, most), inside[0] if inside else None)

    def test_without_rows(self):
        rules = Rules(10)
        self.assertEqual(least_look(rules, [2, 3], 10), 3)
        self.assertEqual(least_look(rules, [3, 2], 3), 3)
        self.assertIs(least_look(rules, [2, 3], 2), None)
        self.assertEqual(least_look(rules, [1, 2], 10000), 2)
        self.assertEqual(least_look(rules, [99, 100], 10000), 100)
        self.assertIs(least_look(rules, [99, 100], 99), None)
        # Each two of three are unlike at 4. At 3 they are 0, 2 and 2.
        self.assertEqual(least_look(rules, [2, 3, 4], 100), 4)
        self.assertIs(least_look(rules, [2, 3, 4], 3), None)

    def test_counts_of_ten(self):
        rules = Rules(10)
        counts = [50, 51, 53, 57, 59, 61, 67, 71, 73, 100]
        found = least_look(rules, counts, 10000)
        seats = [[(number - 1) % people for people in counts] for number in range(1, found + 1)]
        self.assertEqual([number for number, row in enumerate(seats, 1) if len(set(row)) == 10], [found])
        # A ring of one, of two, of three and so on: the persons would have to be 0, 1, 2 and so on.
        self.assertEqual(least_look(rules, list(range(1, 11)), 10000), 2520)

    def test_never(self):
        self.assertIs(least_look(Rules(10, ((every(10), AGAIN),)), [1, 100], 10000), None)
        self.assertIs(least_look(Rules(10, ((every(10), ("skip", 5)),)), [2, 3], 10000), None)
        self.assertIs(least_look(Rules(16, ((every(16), TURN), (every(16), ("skip", 1)))), [2, 1, 4], 10000), None)

    def test_the_greatest_limits(self):
        for base in (2, 16):
            self.assertIs(least_look(Rules(base, ((every(base), AGAIN),)), list(range(91, 101)), 10000), None)
        # The turn goes on at 9999 for the first time.
        rules = steps_only_in(only(10, (9,)) & figure_sum(10, 11, 3))
        self.assertEqual(least_look(rules, [1, 2], 10000), 10000)
        self.assertIs(least_look(rules, [1, 2], 9999), None)


class WrongLooks(unittest.TestCase):
    def refused_at(self, looks, most=7):
        with self.assertRaises(NoLook) as caught:
            people_for(Rules(10), looks, most)
        return caught.exception.index

    def test_no_list(self):
        for looks in [value for value in STRANGE if not isinstance(value, list)] + [((1, 0),), (), 7, {1: 0}]:
            self.assertEqual(self.refused_at(looks), 0)

    def test_each_wrong_look_at_each_index(self):
        wrong = [
            *STRANGE, (1,), (1, 0, 0), [1, 0], "10", (0, 0), (-1, 0), (GREATEST + 1, 0), (10 ** 59, 0), (1, -1),
            (1, -10 ** 59), ((1, 0),), (1, (0,)), 1, 0,
        ]
        wrong += [(value, 0) for value in STRANGE] + [(1, value) for value in STRANGE]
        for look in wrong:
            for at in (0, 1, 7):
                with self.subTest(look=look, at=at):
                    self.assertEqual(self.refused_at([(1, 0)] * at + [look]), at)
                    self.assertEqual(self.refused_at([(1, 0)] * at + [look, (1, 0), None]), at)

    def test_limits_that_are_let(self):
        self.assertEqual(people_for(Rules(10), [(1, 0)], 1), [1])
        self.assertEqual(people_for(Rules(10), [(GREATEST, 10 ** 60 - 1)], 10000), [])

    def test_most(self):
        for most in wrong_integers(1, 10000):
            self.assertRaises(NoPeople, people_for, Rules(10), [], most)
            self.assertRaises(NoPeople, people_for, Rules(10), [(1, 0), (7, 3)], most)
            self.assertEqual(self.refused_at([(1, 0), None], most), 1)
            self.assertEqual(self.refused_at(None, most), 0)

    def test_what_is_passed_and_returned_is_the_callers_own(self):
        looks = [(13, 2), (21, 0)]
        found = people_for(Rules(10), looks, 20)
        self.assertEqual((found, looks), ([5, 10], [(13, 2), (21, 0)]))
        found.append(9)
        looks.append((22, 2))
        self.assertEqual(people_for(Rules(10), looks, 20), [])
        looks.pop()
        self.assertEqual(people_for(Rules(10), looks, 20), [5, 10])


class WrongCounts(unittest.TestCase):
    def test_no_counts(self):
        wrong = [
            *STRANGE, (2, 3), [2], [2, 2], [3, 2, 3], [0, 1], [1, 101], [-1, 2], [2, True], [True, 2], [1, False],
            [2, None], [2, "3"], [2, [3]], [2, (3,)], [2, 3.0], [2, {}], list(range(1, 12)), [5] * 10,
            [1, 2, 3, 4, 5, 6, 7, 8, 9, 9], [2, 10 ** 59], {2: 3, 3: 4}, "23", [[2, 3]], [None] * 3,
        ]
        for counts in wrong:
            with self.subTest(counts=counts):
                self.assertRaises(NoCounts, least_look, Rules(10), counts, 7)
                self.assertRaises(NoCounts, least_look, Rules(10), counts, 0)
                self.assertRaises(NoCounts, least_look, Rules(10), counts, None)

    def test_no_number(self):
        for number in wrong_integers(1, 10000):
            with self.subTest(number=number):
                self.assertRaises(NoNumber, least_look, Rules(10), [2, 3], number)
                self.assertRaises(NoNumber, least_look, LOTS[8].rules, [1, 100], number)

    def test_limits_that_are_let(self):
        self.assertEqual(least_look(Rules(10), [1, 100], 10000), 2)
        self.assertIs(least_look(Rules(10), [1, 100], 1), None)
        self.assertIs(least_look(Rules(10), list(range(10, 0, -1)), 1), None)

    def test_what_is_passed_is_the_callers_own(self):
        counts = [3, 2]
        self.assertEqual(least_look(Rules(10), counts, 10), 3)
        self.assertEqual(counts, [3, 2])
        counts.append(4)
        self.assertEqual(least_look(Rules(10), counts, 100), 4)
        self.assertEqual(counts, [3, 2, 4])


if __name__ == "__main__":
    unittest.main()
