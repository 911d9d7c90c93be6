"""Promises [1] to [4] and [13]: how often somebody speaks, and when for a given time."""

import unittest

from buzzround.errors import NoNumber, NoPeople, NoPerson, NoPlace
from buzzround.kinds import bears, every, figure_sum, multiple
from buzzround.places import direction, place, said, speaker
from buzzround.rules import Rules
from buzzround.tallies import spoken, spoken_by_all, turn_of, turns, words
from tests.plain import GREATEST, check_refusals, just_200, powers_of_ten, wrong_integers
from tests.rounds import AGAIN, LOTS, PEOPLE, TURN, counted_on, nines, rests_alone, steps_only_in

BUZZ = ("say", "buzz")


class SmallNumbers(unittest.TestCase):
    def test_who_speaks_against_plain_counting(self):
        for at, lot in enumerate(LOTS):
            found = counted_on(lot, 150)
            for people in PEOPLE[at % 3::3]:
                told = [0] * people
                for number, (where, _, _, _) in enumerate(found, 1):
                    told[where % people] += 1
                    with self.subTest(at=at, people=people, number=number):
                        self.assertEqual(spoken_by_all(lot.rules, people, number), told)
                        for person in (0, number % people, people - 1):
                            self.assertEqual(spoken(lot.rules, people, person, number), told[person])

    def test_when_somebody_speaks_against_plain_counting(self):
        for at, lot in enumerate(LOTS):
            found = counted_on(lot, 200)
            for people in PEOPLE[at % 3::3]:
                times = [0] * people
                for number, (where, _, _, _) in enumerate(found, 1):
                    times[where % people] += 1
                    with self.subTest(at=at, people=people, number=number):
                        self.assertEqual(turn_of(lot.rules, people, where % people, times[where % people]), number)

    def test_what_is_counted_on_the_way(self):
        for at, lot in enumerate(LOTS):
            replaced = changed = 0
            for number, (_, _, heard, turned) in enumerate(counted_on(lot, 300), 1):
                replaced += heard != str(number)
                changed += turned
                with self.subTest(at=at, number=number):
                    self.assertEqual((words(lot.rules, number), turns(lot.rules, number)), (replaced, changed))

    def test_where_it_is_turned_about_several_times(self):
        for count in range(7):
            rules = Rules(10, ((multiple(10, 3), TURN),) * count)
            for number in range(1, 40):
                self.assertEqual(turns(rules, number), number // 3 if count % 2 else 0)
        rules = Rules(10, ((multiple(10, 3), TURN), (multiple(10, 2), TURN)))
        self.assertEqual([turns(rules, number) for number in range(1, 13)], [0, 1, 2, 3, 3, 3, 3, 4, 5, 6, 6, 6])
        # It is turned about although the turn stands.
        self.assertEqual(turns(Rules(10, ((every(10), TURN), (every(10), AGAIN))), 12), 12)

    def test_several_words_replace_one_number(self):
        rules = Rules(10, ((multiple(10, 3), BUZZ), (multiple(10, 3), BUZZ), (multiple(10, 2), ("say", "a"))))
        self.assertEqual([words(rules, number) for number in range(1, 8)], [0, 1, 2, 3, 3, 4, 4])


class GreatNumbers(unittest.TestCase):
    def test_without_rows(self):
        for base in (2, 3, 10, 16):
            rules = Rules(base)
            for people in PEOPLE:
                for number in (GREATEST - 1, GREATEST):
                    told = [(number - person + people - 1) // people for person in range(people)]
                    self.assertEqual(spoken_by_all(rules, people, number), told)
                for person in (0, people - 1):
                    for times in (1, 2, 10 ** 20, 10 ** 38 - 5):
                        self.assertEqual(turn_of(rules, people, person, times), (times - 1) * people + person + 1)
            self.assertEqual((words(rules, GREATEST), turns(rules, GREATEST)), (0, 0))

    def test_the_last_time(self):
        for base in (2, 10, 16):
            self.assertEqual(turn_of(Rules(base), 1, 0, GREATEST), GREATEST)
            self.assertEqual(turn_of(Rules(base), 2, 1, GREATEST // 2), GREATEST)
            self.assertIs(turn_of(Rules(base), 2, 0, GREATEST // 2 + 1), None)
            self.assertIs(turn_of(Rules(base), 2, 1, GREATEST // 2 + 1), None)
            self.assertIs(turn_of(Rules(base), 2, 0, GREATEST), None)

    def test_the_turn_stands(self):
        for base in (2, 10, 16):
            rules = Rules(base, ((every(base), AGAIN),))
            for people in (1, 7, 100):
                self.assertEqual(spoken_by_all(rules, people, GREATEST), [GREATEST] + [0] * (people - 1))
                self.assertEqual(turn_of(rules, people, 0, GREATEST), GREATEST)
                if people > 1:
                    self.assertEqual(spoken(rules, people, people - 1, GREATEST), 0)
                    self.assertIs(turn_of(rules, people, people - 1, 1), None)

    def test_rests_alone_by_their_period(self):
        for lot, period in rests_alone():
            for people in (1, 7, 10):
                # Behind so many numbers the turn stands at the same person, in the same direction.
                whole = 2 * period * people
                found = counted_on(lot, whole + 1)
                self.assertEqual((found[whole][0] % people, found[whole][1]), (0, 1))
                for number in (10 ** 25 + 7, GREATEST - 1, GREATEST):
                    with self.subTest(base=lot.base, people=people, number=number):
                        self.check_by_period(lot, people, found[:whole], number)

    def check_by_period(self, lot, people, found, number):
        rounds, left = divmod(number, len(found))
        seats = [where % people for where, _, _, _ in found]
        told = [rounds * seats.count(person) + seats[:left].count(person) for person in range(people)]
        self.assertEqual(spoken_by_all(lot.rules, people, number), told)
        self.assertEqual([spoken(lot.rules, people, person, number) for person in range(people)], told)
        replaced = [heard != str(at) for at, (_, _, heard, _) in enumerate(found, 1)]
        self.assertEqual(words(lot.rules, number), rounds * sum(replaced) + sum(replaced[:left]))
        changed = [turned for _, _, _, turned in found]
        self.assertEqual(turns(lot.rules, number), rounds * sum(changed) + sum(changed[:left]))
        for person in range(people):
            if told[person]:
                last = number - [(seats[(number - 1 - at) % len(found)]) for at in range(len(found))].index(person)
                self.assertEqual(turn_of(lot.rules, people, person, told[person]), last)

    def test_all_people_together(self):
        for lot in LOTS[6::2]:
            for people in (3, 100):
                for number in (10 ** 22 + 1, GREATEST):
                    told = spoken_by_all(lot.rules, people, number)
                    self.assertEqual(sum(told), number)
                    for person in (0, people // 2, people - 1):
                        self.assertEqual(spoken(lot.rules, people, person, number), told[person])

    def test_sums_over_two_parts(self):
        for at, lot in enumerate(LOTS):
            people = PEOPLE[at % 7]
            for start, last in ((GREATEST - 60, GREATEST), (lot.base ** 9 - 30, lot.base ** 9 + 30)):
                told = spoken_by_all(lot.rules, people, start)
                replaced, changed = words(lot.rules, start), turns(lot.rules, start)
                for number in range(start + 1, last + 1):
                    told[speaker(lot.rules, people, number)] += 1
                    replaced += said(lot.rules, number) != str(number)
                    changed += lot.effects(number).count(TURN) % 2
                with self.subTest(at=at, last=last):
                    self.assertEqual(spoken_by_all(lot.rules, people, last), told)
                    self.assertEqual((words(lot.rules, last), turns(lot.rules, last)), (replaced, changed))

    def test_turn_of_and_spoken_belong_together(self):
        for at, lot in enumerate(LOTS[6:]):
            people = PEOPLE[1 + at % 6]
            for number in (10 ** 19 + at, GREATEST - at):
                with self.subTest(at=at, number=number):
                    person = speaker(lot.rules, people, number)
                    times = spoken(lot.rules, people, person, number)
                    self.assertEqual(turn_of(lot.rules, people, person, times), number)
                    behind = turn_of(lot.rules, people, person, times + 1)
                    if behind is None:
                        self.assertEqual(spoken(lot.rules, people, person, GREATEST), times)
                    else:
                        self.assertGreater(behind, number)
                        self.assertEqual(spoken(lot.rules, people, person, behind - 1), times)
                        self.assertEqual(speaker(lot.rules, people, behind), person)

    def test_each_time_to_the_number_and_back(self):
        for at, lot in enumerate(LOTS[6:12]):
            for times in (1, 5, 10 ** 12 + at, 10 ** 30):
                number = turn_of(lot.rules, 7, at, times)
                if number is None:
                    self.assertLess(spoken(lot.rules, 7, at, GREATEST), times)
                else:
                    self.assertEqual(spoken(lot.rules, 7, at, number), times)
                    self.assertEqual(speaker(lot.rules, 7, number), at)

    def test_directions_and_their_changes_belong_together(self):
        for lot in LOTS:
            for number in (10 ** 25, GREATEST - 1):
                sign = -1 if turns(lot.rules, number) % 2 else 1
                self.assertEqual(direction(lot.rules, number + 1), sign)

    def test_words_and_kinds_belong_together(self):
        for base in (2, 10, 16):
            one, other = multiple(base, 7), bears(base, 0) & figure_sum(base, 3, 1)
            rules = Rules(base, ((one, BUZZ), (other, ("say", "b")), (one, TURN), (other, TURN)))
            self.assertEqual(words(rules, GREATEST), (one | other).count(GREATEST))
            self.assertEqual(turns(rules, GREATEST), (one ^ other).count(GREATEST))


class FirstLate(unittest.TestCase):
    def test_a_step_at_each_power_of_ten(self):
        # The person k speaks from 10 ** (k - 1) + 1 to 10 ** k.
        rules = steps_only_in(powers_of_ten())
        told = spoken_by_all(rules, 42, GREATEST)
        self.assertEqual(told, [1] + [9 * 10 ** (person - 1) for person in range(1, 41)] + [0])
        for person in range(1, 41):
            self.assertEqual(turn_of(rules, 42, person, 1), 10 ** (person - 1) + 1)
            self.assertEqual(turn_of(rules, 42, person, told[person]), 10 ** person)
            self.assertIs(turn_of(rules, 42, person, told[person] + 1), None)
        # The first one that the person 41 says is just beyond.
        self.assertIs(turn_of(rules, 42, 41, 1), None)
        self.assertEqual(place(rules, GREATEST), 40)

    def test_just_at_the_greatest_number(self):
        rules = steps_only_in(nines(40))
        self.assertEqual(turn_of(rules, 2, 1, 1), GREATEST)
        self.assertIs(turn_of(rules, 2, 1, 2), None)
        self.assertEqual(turn_of(rules, 2, 0, GREATEST - 1), GREATEST - 1)
        self.assertIs(turn_of(rules, 2, 0, GREATEST), None)
        self.assertEqual(spoken_by_all(rules, 3, GREATEST - 1), [GREATEST - 1, 0, 0])
        self.assertEqual(spoken_by_all(rules, 3, GREATEST), [GREATEST - 1, 1, 0])

    def test_far_beyond(self):
        rules = steps_only_in(nines(41))
        self.assertEqual(spoken_by_all(rules, 100, GREATEST), [GREATEST] + [0] * 99)
        self.assertIs(turn_of(rules, 100, 1, 1), None)

    def test_two_hundred_states(self):
        rules = Rules(3, ((just_200(), TURN), (just_200(), ("skip", 3))))
        told = spoken_by_all(rules, 100, GREATEST)
        self.assertEqual(sum(told), GREATEST)
        number = turn_of(rules, 100, 41, told[41])
        self.assertEqual(speaker(rules, 100, number), 41)
        self.assertEqual(spoken(rules, 100, 41, number - 1), told[41] - 1)


class WrongInputs(unittest.TestCase):
    def test_wrong_values(self):
        rules = LOTS[7].rules
        people = (NoPeople, wrong_integers(1, 100))
        person = (NoPerson, wrong_integers(0, 4))
        number = (NoNumber, wrong_integers(1, GREATEST))
        for function in (words, turns):
            check_refusals(self, function, {"rules": rules, "number": 7}, {"number": number})
        check_refusals(
            self, spoken_by_all, {"rules": rules, "people": 5, "number": 7}, {"people": people, "number": number},
        )
        check_refusals(
            self, spoken, {"rules": rules, "people": 5, "person": 2, "number": 7},
            {"people": people, "person": person, "number": number},
        )
        check_refusals(
            self, turn_of, {"rules": rules, "people": 5, "person": 2, "times": 7},
            {"people": people, "person": person, "times": (NoPlace, wrong_integers(1, GREATEST))},
        )

    def test_a_person_of_so_many(self):
        rules = LOTS[7].rules
        for people in PEOPLE:
            self.assertRaises(NoPerson, spoken, rules, people, people, 7)
            self.assertRaises(NoPerson, turn_of, rules, people, people, 1)
            self.assertIs(type(spoken(rules, people, people - 1, 7)), int)
            self.assertIs(type(spoken(rules, people, 0, 7)), int)

    def test_a_returned_list_is_the_callers_own(self):
        rules = LOTS[7].rules
        told = spoken_by_all(rules, 7, GREATEST)
        kept = list(told)
        told.append(3)
        told[0] = 0
        self.assertEqual(spoken_by_all(rules, 7, GREATEST), kept)
        self.assertIsNot(spoken_by_all(rules, 7, GREATEST), spoken_by_all(rules, 7, GREATEST))

    def test_the_same_asked_again_among_others(self):
        rules = LOTS[7].rules
        told = {}
        for _ in range(2):
            for people in PEOPLE:
                for number in (9, GREATEST, 10 ** 20):
                    found = spoken_by_all(rules, people, number), turn_of(rules, people, 0, number)
                    self.assertEqual(told.setdefault((people, number), found), found)
                    self.assertRaises(NoNumber, spoken_by_all, rules, people, GREATEST + 1)


if __name__ == "__main__":
    unittest.main()
