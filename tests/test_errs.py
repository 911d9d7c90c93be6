"""Promises [1] to [4] and [16]: somebody errs at a number."""

import unittest

from buzzround.always import wrong_from, wrong_place
from buzzround.errors import NoLater, NoNumber, NoPeople
from buzzround.kinds import bears, ends, every, multiple
from buzzround.places import direction, place, speaker
from buzzround.rules import Rules
from tests.plain import GREATEST, check_refusals, just_200, wrong_integers
from tests.rounds import AGAIN, LOTS, PEOPLE, TURN, counted_on, nines, repeated, rests_alone, steps_only_in

ERRORS = (1, 2, 3, 7, 10, 15, 16, 21, 27, 64)


class SmallNumbers(unittest.TestCase):
    def test_places_against_plain_counting(self):
        for at, lot in enumerate(LOTS):
            for error in ERRORS[at % 2::2]:
                wrong = [where for where, _, _, _ in counted_on(lot, 120, error)]
                with self.subTest(at=at, error=error):
                    found = [wrong_place(lot.rules, error, later) for later in range(error + 1, 121)]
                    self.assertEqual(found, wrong[error:])

    def test_who_says_another_one_against_plain_counting(self):
        last = 200
        for at, lot in enumerate(LOTS):
            right = [where for where, _, _, _ in counted_on(lot, last)]
            for error in ERRORS:
                wrong = [where for where, _, _, _ in counted_on(lot, last, error)]
                for people in PEOPLE:
                    unlike = [number for number in range(error + 1, last + 1)
                              if (right[number - 1] - wrong[number - 1]) % people]
                    with self.subTest(at=at, error=error, people=people):
                        found = wrong_from(lot.rules, people, error)
                        if unlike or found is None:
                            self.assertEqual([found], unlike[:1] or [None])
                        else:
                            self.assertGreater(found, last)
                            self.check_first(lot.rules, people, error, found)

    def check_first(self, rules, people, error, found):
        self.assertNotEqual(wrong_place(rules, error, found) % people, speaker(rules, people, found))
        for number in range(max(error + 1, found - 20), found):
            self.assertEqual(wrong_place(rules, error, number) % people, speaker(rules, people, number))

    def test_rests_alone_by_their_period(self):
        for lot, period in rests_alone():
            for people in (1, 2, 3, 12):
                # Behind so many numbers both stand at the same persons, in the same directions.
                last = period + 2 * period * people
                right = [where for where, _, _, _ in counted_on(lot, last)]
                for error in range(1, period, 7):
                    wrong = [where for where, _, _, _ in counted_on(lot, last, error)]
                    unlike = [number for number in range(error + 1, last + 1)
                              if (right[number - 1] - wrong[number - 1]) % people]
                    with self.subTest(base=lot.base, people=people, error=error):
                        self.assertEqual(wrong_from(lot.rules, people, error), unlike[0] if unlike else None)


class Shown(unittest.TestCase):
    def test_without_a_row_that_holds(self):
        for base in (2, 10, 16):
            for people in PEOPLE:
                self.assertIs(wrong_from(Rules(base), people, 1), None)
                self.assertIs(wrong_from(Rules(base), people, GREATEST), None)
            self.assertEqual(wrong_place(Rules(base), 1, GREATEST), GREATEST - 1)

    def test_at_the_next_number(self):
        for effect, apart in ((AGAIN, 1), (("skip", 1), -1), (("skip", 9), -9)):
            rules = Rules(10, ((ends(10, 3), effect),))
            for error in (3, 13, 10 ** 39 + 3, GREATEST - 7):
                self.assertEqual(wrong_from(rules, 100, error), error + 1)
                self.assertEqual(wrong_place(rules, error, error + 1) - place(rules, error + 1), apart)
                self.assertEqual(wrong_place(rules, error, GREATEST) - place(rules, GREATEST), apart)

    def test_what_is_only_said_does_not_show(self):
        rules = Rules(10, ((every(10), ("say", "buzz")), (every(10), ("skip", 3))))
        self.assertIs(wrong_from(rules, 3, 7), None)
        self.assertIs(wrong_from(Rules(10, rules.rows()[:1]), 100, 7), None)

    def test_a_whole_number_of_rounds(self):
        for people in (1, 2, 3, 5, 9):
            rules = Rules(10, ((ends(10, 3), ("skip", people)),))
            for error in (3, 10 ** 30 + 3):
                self.assertIs(wrong_from(rules, people, error), None)
                self.assertEqual(wrong_from(rules, people + 1, error), error + 1)
        rules = Rules(10, ((every(10), AGAIN),))
        self.assertIs(wrong_from(rules, 1, 7), None)

    def test_one_and_two_people(self):
        # Whoever says it, of two people a turn about leads to the same one.
        for rules in (Rules(10, ((bears(10, 7), TURN),)), Rules(2, ((multiple(2, 7), TURN),))):
            for error in (7, 70, 77, 10 ** 40 - 3):
                self.assertIs(wrong_from(rules, 1, error), None)
                self.assertIs(wrong_from(rules, 2, error), None)

    def test_two_turns_at_the_number(self):
        rules = Rules(10, ((bears(10, 7), TURN), (ends(10, 7), TURN)))
        self.assertIs(wrong_from(rules, 100, 7), None)
        self.assertEqual(wrong_from(rules, 100, 70), 71)
        self.assertEqual(wrong_place(rules, 7, GREATEST), place(rules, GREATEST))

    def test_a_turn_that_shows_later(self):
        # Of three people the second one further on is the first one back.
        rules = Rules(10, ((ends(10, 7), TURN), (ends(10, 7), ("skip", 1)), (~ends(10, 7) & ~ends(10, 0), AGAIN)))
        self.assertEqual([speaker(rules, 3, number) for number in (7, 8, 9, 10, 11)], [0, 1, 1, 1, 0])
        self.assertEqual([wrong_place(rules, 7, number) for number in (8, 9, 10, 11)], [1, 1, 1, 2])
        self.assertEqual(wrong_from(rules, 3, 7), 11)
        self.assertEqual(wrong_from(rules, 3, 10 ** 39 + 7), 10 ** 39 + 11)
        self.assertEqual(wrong_from(rules, 3, GREATEST - 13), GREATEST - 9)
        self.assertEqual(wrong_from(rules, 4, 7), 8)

    def test_just_beyond_the_greatest_number(self):
        rules = Rules(10, ((ends(10, 7), TURN), (ends(10, 7), ("skip", 1)), (~ends(10, 7) & ~ends(10, 0), AGAIN)))
        self.assertIs(wrong_from(rules, 3, GREATEST - 3), None)
        rules = Rules(10, ((ends(10, 7), TURN), (ends(10, 7), ("skip", 1)), (~ends(10, 7) & ~ends(10, 9), AGAIN)))
        self.assertEqual(wrong_from(rules, 3, GREATEST - 3), GREATEST)

    def test_very_late(self):
        once = repeated(10, 1, ((11, 1), (7, 1)))
        self.assertEqual((once.nth(1), once.nth(2)), (1, None))
        for length in (2, 20, 39, 40, 41):
            late = nines(length)
            rules = Rules(10, ((once, TURN), (once, ("skip", 1)), (~(once | late), AGAIN)))
            with self.subTest(length=length):
                self.assertEqual(wrong_from(rules, 3, 1), 10 ** length if length < 41 else None)
                self.assertEqual(wrong_place(rules, 1, GREATEST - 1), 1 if length >= 40 else 2)

    def test_at_the_last_number(self):
        for lot in LOTS:
            for people in (1, 2, 100):
                self.assertIs(wrong_from(lot.rules, people, GREATEST), None)

    def test_at_the_last_number_but_one(self):
        rules = steps_only_in(nines(40), (TURN, ("skip", 4)))
        self.assertEqual(wrong_from(rules, 100, GREATEST - 1), GREATEST)
        self.assertEqual((place(rules, GREATEST), wrong_place(rules, GREATEST - 1, GREATEST)), (-5, 1))
        self.assertIs(wrong_from(rules, 6, GREATEST - 1), None)
        self.assertEqual(wrong_from(rules, 6, GREATEST - 2), GREATEST - 1)


class GreatNumbers(unittest.TestCase):
    def test_from_the_next_numbers(self):
        for at, lot in enumerate(LOTS):
            for error in (10 ** 22 + at, GREATEST - 41):
                with self.subTest(at=at, error=error):
                    self.check_behind(lot, error)

    def check_behind(self, lot, error):
        where, way = place(lot.rules, error), direction(lot.rules, error)
        where += way
        places = []
        for number in range(error + 1, error + 41):
            self.assertEqual(wrong_place(lot.rules, error, number), where)
            places.append((where, place(lot.rules, number)))
            # From here on the rows hold as ever.
            rows = lot.effects(number)
            step, sign = (0 if AGAIN in rows else 1), (-1) ** rows.count(TURN)
            way *= sign
            where += way * (step + sum(effect[1] for effect in rows if effect[0] == "skip"))
        for people in PEOPLE:
            unlike = [(wrong - right) % people != 0 for wrong, right in places]
            found = wrong_from(lot.rules, people, error)
            if True in unlike:
                self.assertEqual(found, error + 1 + unlike.index(True))
            elif found is not None:
                self.assertGreater(found, error + 40)
                wrong = wrong_place(lot.rules, error, found)
                self.assertNotEqual(wrong % people, place(lot.rules, found) % people)

    def test_two_hundred_states(self):
        rules = Rules(3, ((just_200(), TURN), (just_200(), ("skip", 6))))
        error = just_200().nth(10 ** 30)
        # Seven people: the eighth one back is the first one back, not the first one further on.
        self.assertEqual(wrong_from(rules, 7, error), error + 1)
        found = wrong_from(rules, 8, error)
        self.assertEqual(wrong_place(rules, error, error + 1) % 8, speaker(rules, 8, error + 1))
        self.assertNotEqual(wrong_place(rules, error, found) % 8, speaker(rules, 8, found))


class WrongInputs(unittest.TestCase):
    def test_wrong_values(self):
        rules = LOTS[7].rules
        number = (NoNumber, wrong_integers(1, GREATEST))
        check_refusals(
            self, wrong_from, {"rules": rules, "people": 5, "number": 7},
            {"people": (NoPeople, wrong_integers(1, 100)), "number": number},
        )
        check_refusals(
            self, wrong_place, {"rules": rules, "number": 7, "later": 9}, {"number": number, "later": number},
        )

    def test_no_later(self):
        for rules in (Rules(10), LOTS[8].rules):
            for number, later in ((1, 1), (2, 1), (7, 7), (8, 7), (GREATEST, GREATEST), (GREATEST, 1)):
                self.assertRaises(NoLater, wrong_place, rules, number, later)
            self.assertRaises(NoNumber, wrong_place, rules, GREATEST, GREATEST + 1)
            self.assertRaises(NoNumber, wrong_place, rules, 7, 0)
            self.assertIs(type(wrong_place(rules, 1, 2)), int)
            self.assertIs(type(wrong_place(rules, GREATEST - 1, GREATEST)), int)

    def test_the_same_asked_again(self):
        rules = LOTS[7].rules
        told = [wrong_from(rules, people, 10 ** 20 + 7) for people in PEOPLE]
        self.assertRaises(NoLater, wrong_place, rules, 9, 9)
        self.assertEqual([wrong_from(rules, people, 10 ** 20 + 7) for people in PEOPLE], told)
        self.assertEqual(rules, Rules(10, rules.rows()))


if __name__ == "__main__":
    unittest.main()
