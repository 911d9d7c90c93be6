"""Promises [1] to [4] and [14]: whether somebody ever says a number of a kind, and who never speaks."""

import unittest

from buzzround.always import ever_speaks, first_when, silent
from buzzround.errors import NoMatch, NoPeople, NoPerson, TooWide
from buzzround.kinds import bears, ends, every, figure_sum, multiple, rest
from buzzround.places import speaker, swing
from buzzround.rules import Rules
from buzzround.tallies import spoken, spoken_by_all
from tests.plain import GREATEST, check_refusals, just_200, ones, powers_of_ten, simple_kinds, wrong_integers
from tests.rounds import AGAIN, LOTS, PEOPLE, TURN, counted_on, nines, repeated, rests_alone, steps_only_in

BUZZ = ("say", "buzz")


def is_wide(lot, kind):
    """Whether rules are too wide together with a kind."""
    try:
        if len(lot.rows) < 6:
            Rules(lot.base, (*lot.rules.rows(), (kind, TURN)))
        else:
            # No row is left that could hold the kind.
            first_when(lot.rules, 1, 0, kind)
    except TooWide:
        return True
    return False


class SmallNumbers(unittest.TestCase):
    def test_against_plain_counting(self):
        last = 150
        for at, lot in enumerate(LOTS):
            seen = [where for where, _, _, _ in counted_on(lot, last)]
            people = PEOPLE[at % 7]
            for kind, told in simple_kinds(lot.base)[at % 5::13]:
                if is_wide(lot, kind):
                    self.assertRaises(TooWide, first_when, lot.rules, people, 0, kind)
                    continue
                for person in {0, at % people, people - 1}:
                    inside = [number for number in range(1, last + 1)
                              if told(number) and seen[number - 1] % people == person]
                    with self.subTest(at=at, person=person):
                        self.check_first(lot, people, person, kind, told, inside[:1], last)

    def check_first(self, lot, people, person, kind, told, inside, last):
        found = first_when(lot.rules, people, person, kind)
        if inside or found is None:
            self.assertEqual([found], inside or [None])
        else:
            self.assertGreater(found, last)
            self.assertTrue(told(found))
            self.assertEqual(speaker(lot.rules, people, found), person)

    def test_who_speaks_at_all(self):
        for at, lot in enumerate(LOTS):
            for people in PEOPLE[:4]:
                seen = {where % people for where, _, _, _ in counted_on(lot, 600)}
                with self.subTest(at=at, people=people):
                    never = silent(lot.rules, people)
                    self.assertEqual(set(never) & seen, set())
                    for person in range(people):
                        self.assertIs(ever_speaks(lot.rules, people, person), person not in never)

    def test_rests_alone_by_their_period(self):
        for lot, period in rests_alone():
            for people in (1, 2, 7, 12):
                # Behind so many numbers the same comes again; five and seven are the kind's periods.
                found = counted_on(lot, 70 * period * people)
                seats = [where % people for where, _, _, _ in found]
                self.assertEqual(silent(lot.rules, people), sorted(set(range(people)) - set(seats)))
                kind = rest(lot.base, 5, 4) & rest(lot.base, 7, 2)
                inside = [number for number in range(1, len(seats) + 1) if number % 5 == 4 and number % 7 == 2]
                if is_wide(lot, kind):
                    continue
                for person in range(people):
                    said = [number for number in inside if seats[number - 1] == person]
                    with self.subTest(base=lot.base, people=people, person=person):
                        self.assertEqual(first_when(lot.rules, people, person, kind), said[0] if said else None)


class EverAndNever(unittest.TestCase):
    def test_the_turn_stands(self):
        for base in (2, 10, 16):
            rules = Rules(base, ((every(base), AGAIN), (multiple(base, 7), TURN)))
            for people in PEOPLE:
                self.assertEqual(silent(rules, people), list(range(1, people)))
                self.assertIs(ever_speaks(rules, people, 0), True)
                self.assertIs(ever_speaks(rules, people, people - 1), people == 1)
                self.assertEqual(first_when(rules, people, 0, bears(base, 0)), base)
            self.assertIs(first_when(rules, 100, 99, every(base)), None)
            self.assertIs(first_when(rules, 1, 0, ~every(base)), None)

    def test_everybody_speaks(self):
        for base in (2, 10, 16):
            for people in PEOPLE:
                self.assertEqual(silent(Rules(base), people), [])
                self.assertEqual(first_when(Rules(base), people, people - 1, every(base)), people)

    def test_even_places_alone(self):
        rules = Rules(10, ((every(10), ("skip", 1)), (bears(10, 7), BUZZ)))
        self.assertEqual(silent(rules, 100), list(range(1, 100, 2)))
        self.assertEqual(silent(rules, 99), [])
        self.assertIs(ever_speaks(rules, 64, 1), False)
        self.assertIs(ever_speaks(rules, 64, 62), True)

    def test_the_turn_swings_for_ever(self):
        # Numbers with a seven come side by side for so long that they undo each other.
        rules = Rules(10, ((every(10), ("skip", 1)), (bears(10, 7), TURN)))
        self.assertEqual(swing(rules, GREATEST), (-8, 12))
        self.assertEqual(silent(rules, 100), sorted(set(range(100)) - {at % 100 for at in range(-8, 13, 2)}))
        self.assertEqual(silent(rules, 7), [])

    def test_multiples_of_the_number_of_people(self):
        for people in (2, 3, 4, 12):
            for person in range(people):
                # The person says the numbers with the rest person + 1.
                kind = multiple(10, people)
                found = first_when(Rules(10), people, person, kind)
                self.assertEqual(found, people if person == people - 1 else None)

    def test_two_places_by_turns(self):
        rules = Rules(2, ((every(2), TURN),))
        self.assertEqual(silent(rules, 100), list(range(1, 99)))
        self.assertEqual(first_when(rules, 100, 99, multiple(2, 7)), 14)
        self.assertIs(first_when(rules, 100, 0, multiple(2, 2)), None)


class FirstLate(unittest.TestCase):
    def test_just_at_the_greatest_number(self):
        rules = steps_only_in(nines(40))
        self.assertEqual(first_when(rules, 2, 1, every(10)), GREATEST)
        self.assertEqual(first_when(rules, 2, 1, multiple(10, 2)), GREATEST)
        self.assertIs(ever_speaks(rules, 2, 1), True)
        self.assertEqual(silent(rules, 3), [2])
        self.assertEqual(silent(rules, 1), [])

    def test_just_beyond_the_greatest_number(self):
        self.assertIs(first_when(steps_only_in(nines(40)), 2, 1, rest(10, 2, 1)), None)
        rules = steps_only_in(powers_of_ten())
        self.assertEqual(silent(rules, 42), [41])
        self.assertIs(ever_speaks(rules, 42, 41), False)
        self.assertIs(ever_speaks(rules, 42, 40), True)
        self.assertIs(first_when(rules, 42, 41, every(10)), None)
        self.assertEqual(first_when(rules, 42, 40, every(10)), 10 ** 39 + 1)
        self.assertEqual(first_when(rules, 42, 40, ends(10, 9)), 10 ** 39 + 9)

    def test_far_beyond_the_greatest_number(self):
        rules = steps_only_in(nines(41))
        self.assertEqual(silent(rules, 5), [1, 2, 3, 4])
        self.assertIs(first_when(rules, 5, 1, every(10)), None)
        for base, kind in ((10, nines(41)), (2, ones((11, 7, 2)))):
            self.assertIs(first_when(Rules(base), 1, 0, kind), None)

    def test_a_late_number_of_the_kind(self):
        for length in (2, 13, 39, 40):
            number = 10 ** length - 1
            for people in PEOPLE:
                person = (number - 1) % people
                self.assertEqual(first_when(Rules(10), people, person, nines(length)), number)
                if people > 1:
                    self.assertIs(first_when(Rules(10), people, (person + 1) % people, nines(length)), None)

    def test_found_numbers_are_said_and_none_before(self):
        for at, lot in enumerate(LOTS[6:]):
            people = PEOPLE[1 + at % 6]
            for person in {1, people - 1}:
                with self.subTest(at=at, person=person):
                    found = first_when(lot.rules, people, person, every(lot.base))
                    if found is None:
                        self.assertEqual(spoken(lot.rules, people, person, GREATEST), 0)
                    else:
                        self.assertEqual(spoken(lot.rules, people, person, found), 1)
                        self.assertEqual(speaker(lot.rules, people, found), person)

    def test_who_never_speaks_has_never_spoken(self):
        for at, lot in enumerate(LOTS[:20]):
            people = PEOPLE[at % 7]
            told = spoken_by_all(lot.rules, people, GREATEST)
            with self.subTest(at=at, people=people):
                self.assertEqual(silent(lot.rules, people), [person for person in range(people) if not told[person]])


class Width(unittest.TestCase):
    def test_just_200_and_one_more(self):
        # 198 states for the ones, one for what is neither, and one or two for the twos.
        rows = ((repeated(3, 1, ((9, 0), (2, 0))), TURN), (repeated(3, 2, ()), TURN))
        kind = repeated(3, 1, ((11, 0),))
        self.assertEqual(Rules(3, (*rows, (kind, TURN))).size(), 200)
        self.assertEqual(first_when(Rules(3, rows), 1, 0, kind), (3 ** 11 - 1) // 2)
        wider = (rows[0], (repeated(3, 2, ((4, 0),)), TURN))
        self.assertRaises(TooWide, first_when, Rules(3, wider), 1, 0, kind)
        self.assertRaises(TooWide, first_when, Rules(3, wider), 100, 99, kind)

    def test_wide_rules_and_the_same_wide_kind(self):
        rules = Rules(3, ((just_200(), TURN),))
        least = just_200().least()
        for people in PEOPLE:
            self.assertEqual(first_when(rules, people, (least - 1) % people, just_200()), least)
        # It is one further at each number, so that the even numbers come at odd places.
        self.assertIs(first_when(rules, 100, 0, just_200()), None)
        self.assertIs(first_when(rules, 100, 0, ~every(3)), None)
        self.assertEqual(first_when(rules, 100, 99, ~just_200()), first_when(rules, 100, 99, every(3)))
        self.assertRaises(TooWide, first_when, rules, 100, 0, bears(3, 0))
        self.assertRaises(TooWide, first_when, Rules(3, ((bears(3, 0), TURN),)), 100, 0, just_200())

    def test_it_is_not_told_what_comes_out_but_which_hold(self):
        # All that the turn does could be told by fewer states than tell which rows hold.
        rules = Rules(3, ((just_200(), BUZZ),))
        self.assertRaises(TooWide, first_when, rules, 1, 0, bears(3, 0))


class WrongInputs(unittest.TestCase):
    def test_wrong_values(self):
        rules = LOTS[7].rules
        people = (NoPeople, wrong_integers(1, 100))
        person = (NoPerson, wrong_integers(0, 4))
        check_refusals(self, silent, {"rules": rules, "people": 5}, {"people": people})
        check_refusals(
            self, ever_speaks, {"rules": rules, "people": 5, "person": 2}, {"people": people, "person": person},
        )
        check_refusals(
            self, first_when, {"rules": rules, "people": 5, "person": 2, "kind": every(10)},
            {"people": people, "person": person, "kind": (NoMatch, (every(9), multiple(2, 7), 7, None, "every"))},
        )

    def test_the_order_of_errors(self):
        rules = Rules(3, ((just_200(), TURN),))
        self.assertRaises(NoPeople, first_when, rules, 0, 5, every(10))
        self.assertRaises(NoPerson, first_when, rules, 5, 5, every(10))
        self.assertRaises(NoMatch, first_when, rules, 5, 4, bears(10, 0))
        self.assertRaises(NoPeople, first_when, rules, True, 0, bears(3, 0))
        self.assertRaises(NoPerson, first_when, rules, 5, -1, bears(3, 0))
        self.assertRaises(TooWide, first_when, rules, 5, 4, bears(3, 0))

    def test_a_person_of_so_many(self):
        for people in PEOPLE:
            for person in (people, -1):
                self.assertRaises(NoPerson, ever_speaks, Rules(10), people, person)
                self.assertRaises(NoPerson, first_when, Rules(10), people, person, every(10))
            self.assertIs(ever_speaks(Rules(10), people, people - 1), True)

    def test_a_returned_list_is_the_callers_own(self):
        rules = Rules(10, ((every(10), AGAIN),))
        told = silent(rules, 5)
        told.append(9)
        told[0] = 0
        self.assertEqual(silent(rules, 5), [1, 2, 3, 4])
        self.assertIsNot(silent(rules, 5), silent(rules, 5))
        self.assertEqual(silent(rules, 1), [])

    def test_the_same_asked_again(self):
        rules, kind = LOTS[6].rules, multiple(10, 7) & figure_sum(10, 2, 0)
        for _ in range(2):
            self.assertEqual(first_when(rules, 7, 3, kind), first_when(rules, 7, 3, kind))
            self.assertRaises(NoMatch, first_when, rules, 7, 3, every(9))
            self.assertEqual(kind, multiple(10, 7) & figure_sum(10, 2, 0))
            self.assertEqual(rules, Rules(10, rules.rows()))


if __name__ == "__main__":
    unittest.main()
