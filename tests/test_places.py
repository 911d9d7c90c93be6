"""Promises [1], [2], [3], [4], [11] and [12]: what happens at a number, and where the turn stands."""

import unittest

from buzzround.errors import NoNumber, NoPeople
from buzzround.kinds import bears, ends, every, multiple
from buzzround.places import direction, place, said, speaker, swing
from buzzround.rules import Rules
from tests.plain import GREATEST, check_refusals, just_200, wrong_integers
from tests.rounds import AGAIN, LOTS, PEOPLE, TURN, counted_on, nines, rests_alone, step_and_sign, steps_only_in

BUZZ = ("say", "buzz")


class SmallNumbers(unittest.TestCase):
    def test_against_plain_counting(self):
        for at, lot in enumerate(LOTS):
            least = greatest = 0
            for number, (where, way, words, _) in enumerate(counted_on(lot, 300), 1):
                with self.subTest(at=at, number=number):
                    least, greatest = min(least, where), max(greatest, where)
                    self.assertEqual(place(lot.rules, number), where)
                    self.assertEqual(direction(lot.rules, number), way)
                    self.assertEqual(said(lot.rules, number), words)
                    self.assertEqual(swing(lot.rules, number), (least, greatest))

    def test_speakers_against_plain_counting(self):
        for at, lot in enumerate(LOTS[::4]):
            found = counted_on(lot, 250)
            for people in PEOPLE:
                with self.subTest(at=at, people=people):
                    told = [speaker(lot.rules, people, number) for number in range(1, 251)]
                    self.assertEqual(told, [where % people for where, _, _, _ in found])

    def test_some_thousand_numbers(self):
        for lot in LOTS[6:10]:
            found = counted_on(lot, 5000)
            for number in (999, 1000, 1024, 4095, 4096, 4999, 5000):
                self.assertEqual(place(lot.rules, number), found[number - 1][0])
                places = [where for where, _, _, _ in found[:number]]
                self.assertEqual(swing(lot.rules, number), (min(places), max(places)))


class OneNumber(unittest.TestCase):
    """Effects at the number 1, whatever they are, and what comes behind it."""

    def behind(self, *effects):
        rules = Rules(10, tuple((~ends(10, 2), effect) for effect in effects))
        return place(rules, 2), direction(rules, 2), said(rules, 1)

    def test_one_is_said_at_the_place_0_onward(self):
        for lot in LOTS:
            self.assertEqual((place(lot.rules, 1), direction(lot.rules, 1), swing(lot.rules, 1)), (0, 1, (0, 0)))
            self.assertEqual([speaker(lot.rules, people, 1) for people in PEOPLE], [0] * len(PEOPLE))

    def test_each_effect(self):
        self.assertEqual(self.behind(), (1, 1, "1"))
        self.assertEqual(self.behind(BUZZ), (1, 1, "buzz"))
        self.assertEqual(self.behind(TURN), (-1, -1, "1"))
        self.assertEqual(self.behind(AGAIN), (0, 1, "1"))
        for number in range(1, 10):
            self.assertEqual(self.behind(("skip", number)), (1 + number, 1, "1"))

    def test_several_effects(self):
        self.assertEqual(self.behind(TURN, TURN), (1, 1, "1"))
        self.assertEqual(self.behind(TURN, TURN, TURN), (-1, -1, "1"))
        self.assertEqual(self.behind(AGAIN, AGAIN), (0, 1, "1"))
        self.assertEqual(self.behind(AGAIN, TURN), (0, -1, "1"))
        self.assertEqual(self.behind(("skip", 2), ("skip", 5)), (8, 1, "1"))
        self.assertEqual(self.behind(("skip", 2), ("skip", 2), TURN), (-5, -1, "1"))
        self.assertEqual(self.behind(AGAIN, ("skip", 3)), (3, 1, "1"))
        self.assertEqual(self.behind(("skip", 3), TURN, AGAIN, ("skip", 9), AGAIN), (-12, -1, "1"))
        self.assertEqual(self.behind(*[("skip", 9)] * 6), (55, 1, "1"))

    def test_words_in_the_order_of_the_rows(self):
        self.assertEqual(self.behind(BUZZ, TURN, ("say", "a"), ("say", "buzz"))[2], "buzz a buzz")
        self.assertEqual(self.behind(("say", "b"), ("say", "a"))[2], "b a")

    def test_the_direction_is_told_ahead_of_the_effects(self):
        rules = Rules(10, ((multiple(10, 3), TURN),))
        self.assertEqual([direction(rules, number) for number in range(1, 9)], [1, 1, 1, -1, -1, -1, 1, 1])
        self.assertEqual([place(rules, number) for number in range(1, 9)], [0, 1, 2, 1, 0, -1, 0, 1])
        self.assertEqual([speaker(rules, 5, number) for number in range(1, 9)], [0, 1, 2, 1, 0, 4, 0, 1])
        swings = [swing(rules, number) for number in (1, 3, 5, 6, 8)]
        self.assertEqual(swings, [(0, 0), (0, 2), (0, 2), (-1, 2), (-1, 2)])


class GreatNumbers(unittest.TestCase):
    def test_without_rows(self):
        for base in range(2, 17):
            rules = Rules(base)
            for number in (1, 10 ** 20, GREATEST - 1, GREATEST):
                self.assertEqual((place(rules, number), direction(rules, number)), (number - 1, 1))
                self.assertEqual((swing(rules, number), said(rules, number)), ((0, number - 1), str(number)))
                self.assertEqual(speaker(rules, 97, number), (number - 1) % 97)

    def test_a_turn_at_all_numbers(self):
        for base in (2, 10, 16):
            rules = Rules(base, ((every(base), TURN),))
            self.assertEqual([place(rules, GREATEST - at) for at in range(4)], [-1, 0, -1, 0])
            self.assertEqual([direction(rules, GREATEST - at) for at in range(4)], [-1, 1, -1, 1])
            self.assertEqual(swing(rules, GREATEST), (-1, 0))
            self.assertEqual(speaker(rules, 100, GREATEST), 99)

    def test_the_turn_stands(self):
        for base in (2, 10, 16):
            rules = Rules(base, ((every(base), AGAIN), (multiple(base, 3), TURN)))
            self.assertEqual((place(rules, GREATEST), swing(rules, GREATEST)), (0, (0, 0)))
            self.assertEqual(direction(rules, GREATEST), -1 if GREATEST // 3 % 2 else 1)

    def test_skips_add_up(self):
        rules = Rules(7, ((every(7), ("skip", 9)),) * 6)
        self.assertEqual(place(rules, GREATEST), 55 * (GREATEST - 1))
        rules = Rules(7, ((every(7), ("skip", 9)),) * 5 + ((every(7), AGAIN),))
        self.assertEqual(place(rules, GREATEST), 45 * (GREATEST - 1))

    def test_rests_alone_by_their_period(self):
        for lot, period in rests_alone():
            for number in (10 ** 15 + 1, 10 ** 25 + 7, GREATEST - 1, GREATEST):
                with self.subTest(base=lot.base, number=number):
                    self.check_by_period(lot, period, number)

    def check_by_period(self, lot, period, number):
        # Two periods one behind the other leave the direction as it was.
        period *= 2
        found = counted_on(lot, 2 * period + 1)
        move = found[period][0]
        self.assertEqual(found[period][1], 1)
        rounds, left = divmod(number - 1, period)
        self.assertEqual(place(lot.rules, number), rounds * move + found[left][0])
        self.assertEqual(direction(lot.rules, number), found[left][1])
        places = [where for where, _, _, _ in found[:period]]
        last = [rounds * move + where for where, _, _, _ in found[:left + 1]]
        ahead = [(rounds - 1) * move + where for where in places]
        self.assertEqual(swing(lot.rules, number), (min(places + last + ahead), max(places + last + ahead)))

    def test_a_number_against_the_next_one(self):
        for at, lot in enumerate(LOTS):
            for start in (lot.base ** 9 - 3, 10 ** 30, GREATEST - 8):
                for number in range(start, start + 8):
                    with self.subTest(at=at, number=number):
                        step, sign = step_and_sign(lot.effects(number))
                        way = direction(lot.rules, number) * sign
                        self.assertEqual(direction(lot.rules, number + 1), way)
                        where = place(lot.rules, number) + way * step
                        self.assertEqual(place(lot.rules, number + 1), where)
                        low, high = swing(lot.rules, number)
                        self.assertEqual(swing(lot.rules, number + 1), (min(low, where), max(high, where)))

    def test_what_is_said(self):
        rules = Rules(10, ((bears(10, 7), BUZZ), (ends(10, 0), ("say", "ten"))))
        self.assertEqual(said(rules, GREATEST), "ten")
        self.assertEqual(said(rules, GREATEST - 1), "9" * 40)
        self.assertEqual(said(rules, 7 * 10 ** 39), "buzz ten")
        self.assertEqual(said(Rules(2), GREATEST), "1" + "0" * 40)
        self.assertEqual(said(Rules(16), GREATEST - 2), "9" * 39 + "8")

    def test_the_only_step_is_at_the_last_number_but_one(self):
        rules = steps_only_in(nines(40), (TURN, ("skip", 4)))
        self.assertEqual([place(rules, number) for number in (1, GREATEST - 1, GREATEST)], [0, 0, -5])
        self.assertEqual([direction(rules, number) for number in (1, GREATEST - 1, GREATEST)], [1, 1, -1])
        self.assertEqual((swing(rules, GREATEST - 1), swing(rules, GREATEST)), ((0, 0), (-5, 0)))

    def test_two_hundred_states(self):
        rules = Rules(3, ((just_200(), TURN), (~just_200(), ("skip", 1))))
        self.assertEqual(rules.size(), 200)
        where, way = place(rules, GREATEST - 1), direction(rules, GREATEST - 1)
        inside = GREATEST - 1 in just_200()
        self.assertEqual(place(rules, GREATEST), where + (-way if inside else 2 * way))


class WrongInputs(unittest.TestCase):
    def test_wrong_values(self):
        number = (NoNumber, wrong_integers(1, GREATEST))
        for lot in (LOTS[0], LOTS[8]):
            for function in (place, direction, said, swing):
                check_refusals(self, function, {"rules": lot.rules, "number": 7}, {"number": number})
            check_refusals(
                self, speaker, {"rules": lot.rules, "people": 5, "number": 7},
                {"people": (NoPeople, wrong_integers(1, 100)), "number": number},
            )

    def test_the_limits_are_let(self):
        rules = LOTS[7].rules
        for people in (1, 100):
            for number in (1, GREATEST):
                self.assertEqual(speaker(rules, people, number), place(rules, number) % people)

    def test_the_same_asked_again(self):
        for lot in LOTS[6:9]:
            told = [place(lot.rules, GREATEST), swing(lot.rules, 99), speaker(lot.rules, 7, 10 ** 20)]
            self.assertRaises(NoNumber, place, lot.rules, GREATEST + 1)
            self.assertRaises(NoPeople, speaker, lot.rules, 101, 1)
            again = Rules(lot.base, lot.rules.rows())
            for rules in (lot.rules, again):
                self.assertEqual([place(rules, GREATEST), swing(rules, 99), speaker(rules, 7, 10 ** 20)], told)
            self.assertEqual(lot.rules, again)


if __name__ == "__main__":
    unittest.main()
