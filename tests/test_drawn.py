"""Rules whose kinds come from texts of machines."""

import unittest

from buzzround.always import first_when, silent, told_apart, wrong_from, wrong_place
from buzzround.errors import NoBase, NoLater, NoMatch, NoNumber, NoPeople, NoPerson, NoRow, TooWide
from buzzround.guesses import least_look, people_for
from buzzround.kinds import every, multiple
from buzzround.places import direction, place, said, speaker, swing
from buzzround.rules import Rules
from buzzround.tallies import spoken, spoken_by_all, turn_of, turns, words
from tests.drawn import by_length, kind_drawn, least_drawing, lots_told_apart, some_drawing, state_of
from tests.plain import GREATEST, STRANGE
from tests.rounds import AGAIN, TURN, Lot, counted_on

LAST = 1500
SORTS = (TURN, ("skip", 3), AGAIN, ("say", "buzz"), TURN, ("skip", 9), ("say", "fizz"))


class Drawn:
    """A kind that comes from a text, with its drawing."""

    def __init__(self, base, size, seed):
        self.rows, self.inside = least_drawing(*some_drawing(base, size, seed))
        self.kind = kind_drawn(self.rows, self.inside)

    def told(self, number):
        return state_of(self.rows, number) in self.inside


def size_of_both(drawings):
    """The size of the least machine that tells of all drawings."""
    base = len(drawings[0].rows[0])
    met = {tuple([0] * len(drawings)): 0}
    rows = []
    for states in met_in_turn(met):
        row = []
        for figure in range(base):
            behind = tuple(one.rows[state][figure] for one, state in zip(drawings, states))
            if behind[0] is None:
                row.append(None)
                continue
            met.setdefault(behind, len(met))
            row.append(met[behind])
        rows.append(row)
    marks = [tuple(state in one.inside for one, state in zip(drawings, states)) for states in met]
    marks[0] = None
    return len(set(lots_told_apart(rows, marks))) - 1


def met_in_turn(met):
    """The keys of a dict that grows meanwhile."""
    at = 0
    while at < len(met):
        yield list(met)[at]
        at += 1


def drawn_lots():
    """Lots of rules with kinds that are drawn."""
    for seed in range(14):
        base = (2, 3, 5, 10, 16, 7, 12)[seed % 7]
        sizes = ((30,), (9, 7), (4, 5, 4))[seed % 3]
        drawings = [Drawn(base, size, seed * 10 + at) for at, size in enumerate(sizes)]
        yield Lot(base, [(one.kind, one.told, SORTS[(seed + at * 2) % len(SORTS)]) for at, one in enumerate(drawings)])


LOTS = list(drawn_lots())


def turning(*kinds):
    return Rules(kinds[0].base(), tuple((kind, TURN) for kind in kinds))


class Sizes(unittest.TestCase):
    def test_rules_of_200_states_and_one_more(self):
        for base in (2, 10, 16):
            for one, other, ahead, size in ((8, 25, 0, 200), (7, 28, 0, 28), (3, 66, 1, 67), (9, 22, 2, 200),
                                            (100, 2, 100, 200),
                                            (199, 1, 1, 200), (11, 18, 0, 198), (200, 100, 0, 200)):
                rules = turning(by_length(base, one, ahead), by_length(base, other))
                self.assertEqual(rules.size(), size)
            for one, other, ahead in ((8, 25, 1), (3, 67, 0), (9, 22, 3), (199, 2, 0), (101, 2, 0), (33, 5, 160)):
                self.assertRaises(TooWide, turning, by_length(base, one, ahead), by_length(base, other))
                self.assertRaises(TooWide, turning, by_length(base, other), every(base), by_length(base, one, ahead))

    def test_first_when(self):
        for base in (2, 10, 16):
            rules = turning(by_length(base, 8))
            self.assertEqual(first_when(rules, 1, 0, by_length(base, 25)), base ** 24)
            self.assertIsNone(first_when(rules, 1, 0, by_length(base, 1, 150)))
            self.assertRaises(TooWide, first_when, rules, 1, 0, by_length(base, 25, 1))
            self.assertRaises(TooWide, first_when, turning(by_length(base, 8, 1)), 1, 0, by_length(base, 25))
            self.assertRaises(TooWide, first_when, turning(by_length(base, 67)), 1, 0, by_length(base, 3))
            first_when(turning(by_length(base, 66, 1)), 1, 0, by_length(base, 3))

    def test_told_apart(self):
        for base in (2, 10):
            for ahead, error in ((0, False), (1, True)):
                one, other = turning(by_length(base, 16, ahead)), turning(by_length(base, 25))
                if error:
                    self.assertRaises(TooWide, told_apart, one, other)
                    self.assertRaises(TooWide, told_apart, other, one)
                else:
                    # The numbers with sixteen figures are the first to turn.
                    self.assertEqual(told_apart(one, other), base ** 15 + 1)
                    self.assertEqual(told_apart(other, one), base ** 15 + 1)
            # 399 and 402 states.
            told_apart(turning(by_length(base, 19)), turning(by_length(base, 21)))
            self.assertRaises(TooWide, told_apart, turning(by_length(base, 134)), turning(by_length(base, 3)))
            self.assertRaises(TooWide, told_apart, turning(by_length(base, 200)), turning(by_length(base, 199)))

    def test_sizes_of_all_sorts(self):
        found = {True: 0, False: 0}
        for seed in range(60):
            base = (2, 3, 10)[seed % 3]
            one, other = Drawn(base, 12 + seed % 8, seed), Drawn(base, 14 + seed % 9, seed + 500)
            size = size_of_both([one, other])
            with self.subTest(seed=seed, size=size):
                found[size > 200] += 1
                lot = turning(one.kind)
                if size > 200:
                    self.assertRaises(TooWide, turning, one.kind, other.kind)
                    self.assertRaises(TooWide, first_when, lot, 5, 1, other.kind)
                else:
                    self.assertEqual(turning(one.kind, other.kind).size(), size)
                    first_when(lot, 5, 1, other.kind)
        self.assertGreater(min(found.values()), 5)

    def test_sizes_of_two_lots(self):
        found = {True: 0, False: 0}
        for seed in range(30):
            base = (2, 3, 10)[seed % 3]
            one, other = Drawn(base, 20 + seed % 5, seed), Drawn(base, 19 + seed % 8, seed + 500)
            size = size_of_both([one, other])
            with self.subTest(seed=seed, size=size):
                found[size > 400] += 1
                if size > 400:
                    self.assertRaises(TooWide, told_apart, turning(one.kind), turning(other.kind))
                else:
                    told_apart(turning(one.kind), turning(other.kind))
        self.assertGreater(min(found.values()), 3)


class CountedOn(unittest.TestCase):
    def test_places(self):
        for lot in LOTS:
            told = counted_on(lot, LAST)
            low = high = 0
            for number in range(1, LAST + 1, 7):
                spot, sign, text, _ = told[number - 1]
                self.assertEqual((place(lot.rules, number), direction(lot.rules, number), said(lot.rules, number)),
                                 (spot, sign, text))
                self.assertEqual(speaker(lot.rules, 7, number), spot % 7)
                self.assertEqual(lot.rules.holding(number), [at for at, row in enumerate(lot.rows) if row[0](number)])
            for spot, _, _, _ in told:
                low, high = min(low, spot), max(high, spot)
            self.assertEqual(swing(lot.rules, LAST), (low, high))

    def test_tallies(self):
        for lot in LOTS:
            told = counted_on(lot, LAST)
            for people in (1, 5, 100):
                spots = [spot % people for spot, _, _, _ in told]
                self.assertEqual(spoken_by_all(lot.rules, people, LAST), [spots.count(one) for one in range(people)])
                for person in {0, people // 2, people - 1}:
                    self.assertEqual(spoken(lot.rules, people, person, LAST), spots.count(person))
                    heard = [at for at, spot in enumerate(spots, start=1) if spot == person]
                    for times in (1, 2, len(heard)):
                        if 1 <= times <= len(heard):
                            self.assertEqual(turn_of(lot.rules, people, person, times), heard[times - 1])
            self.assertEqual(words(lot.rules, LAST), sum(not text.isdigit() for _, _, text, _ in told))
            self.assertEqual(turns(lot.rules, LAST), sum(changed for _, _, _, changed in told))

    def test_first_when(self):
        for lot in LOTS:
            told = counted_on(lot, LAST)
            asked = [one for one in [Drawn(lot.base, 2, seed) for seed in range(30)] if one.kind.size() == 2][0]
            for people in (1, 5, 12, 100):
                for person in {0, people // 2, people - 1}:
                    first = [at for at, one in enumerate(told, start=1) if one[0] % people == person and asked.told(at)]
                    found = first_when(lot.rules, people, person, asked.kind)
                    if first:
                        self.assertEqual(found, first[0])
                    else:
                        self.assertTrue(found is None or found > LAST)
                    if found is not None:
                        self.assertTrue(asked.told(found))
                        self.assertEqual(speaker(lot.rules, people, found), person)

    def test_told_apart(self):
        for at, lot in enumerate(LOTS):
            told = counted_on(lot, LAST)
            rows = [(kind, row[0], row[1]) for (kind, effect), row in zip(lot.rules.rows(), lot.rows)]
            for more in range(6):
                # The same kinds with other effects, or the last row replaced by another one.
                turned = [
                    (kind, asked, SORTS[(at + more + spot) % len(SORTS)]) for spot, (kind, asked, _) in enumerate(rows)
                ]
                drawn = Drawn(lot.base, 3, more)
                others = [Lot(lot.base, turned), Lot(lot.base, rows[:-1] + [(drawn.kind, drawn.told, SORTS[more])])]
                for other in others:
                    unlike = [number for number, (one, second) in enumerate(zip(told, counted_on(other, LAST)), start=1)
                              if one[0] != second[0]]
                    found = told_apart(lot.rules, other.rules)
                    self.assertEqual(found, unlike[0] if unlike else None)
                    self.assertEqual(told_apart(other.rules, lot.rules), found)
            self.assertIsNone(told_apart(lot.rules, Rules(lot.base, lot.rules.rows())))
            self.assertRaises(NoMatch, told_apart, lot.rules, Rules(lot.base % 15 + 2))

    def test_errors(self):
        for lot in LOTS:
            told = counted_on(lot, 400)
            for number in (1, 2, 3, 9, 20, 55, 130):
                wrong = counted_on(lot, 400, number)
                for later in (number + 1, number + 2, number + 60, 400):
                    self.assertEqual(wrong_place(lot.rules, number, later), wrong[later - 1][0])
                for people in (2, 5, 100):
                    unlike = [at for at in range(number + 1, 401) if (told[at - 1][0] - wrong[at - 1][0]) % people]
                    found = wrong_from(lot.rules, people, number)
                    if unlike:
                        self.assertEqual(found, unlike[0])
                    else:
                        self.assertTrue(found is None or found > 400)

    def test_guesses(self):
        for lot in LOTS:
            told = counted_on(lot, LAST)
            for people in (1, 4, 9):
                looks = [(number, told[number - 1][0] % people) for number in (1, 5, 50, 333, LAST)]
                fits = [many for many in range(1, 60)
                        if all(told[number - 1][0] % many == person for number, person in looks)]
                self.assertEqual(people_for(lot.rules, looks, 59), fits)
            for counts in ([2, 3], [5, 7, 9], [3, 100, 64, 17]):
                unlike = [at for at, one in enumerate(told, start=1)
                          if len({one[0] % many for many in counts}) == len(counts)]
                self.assertEqual(least_look(lot.rules, counts, LAST), unlike[0] if unlike else None)


class OrderOfErrors(unittest.TestCase):
    def setUp(self):
        self.rules = turning(by_length(10, 67))
        self.wide = by_length(10, 3)
        self.other = by_length(2, 3)

    def test_rules(self):
        rows = ((by_length(10, 67), TURN), (self.wide, TURN))
        self.assertRaises(TooWide, Rules, 10, rows)
        for base in STRANGE:
            self.assertRaises(NoBase, Rules, base, rows)
        for row in ((self.other, TURN), (self.wide, ("turns",)), (self.wide,), [self.wide, TURN], None,
                    (TURN, self.wide)):
            for at in range(3):
                with self.assertRaises(NoRow) as caught:
                    Rules(10, (*rows[:at], row, *rows[at:]))
                self.assertEqual(caught.exception.index, at)
        with self.assertRaises(NoRow) as caught:
            Rules(10, rows * 3 + rows[:1])
        self.assertEqual(caught.exception.index, 6)
        with self.assertRaises(NoRow) as caught:
            Rules(10, list(rows))
        self.assertEqual(caught.exception.index, 0)
        self.assertRaises(TooWide, Rules, 10, rows * 3)

    def test_first_when(self):
        for people in (0, 101, *STRANGE):
            for person in (0, -1, None):
                for kind in (self.wide, self.other):
                    self.assertRaises(NoPeople, first_when, self.rules, people, person, kind)
        for person in (-1, 5, *STRANGE):
            for kind in (self.wide, self.other):
                self.assertRaises(NoPerson, first_when, self.rules, 5, person, kind)
        self.assertRaises(NoMatch, first_when, self.rules, 5, 4, self.other)
        self.assertRaises(TooWide, first_when, self.rules, 5, 4, self.wide)

    def test_told_apart(self):
        self.assertRaises(NoMatch, told_apart, turning(by_length(10, 134)), turning(by_length(2, 200)))
        self.assertRaises(TooWide, told_apart, turning(by_length(10, 134)), turning(self.wide))

    def test_errs(self):
        for people in (0, 101, None):
            self.assertRaises(NoPeople, wrong_from, self.rules, people, 0)
        for number in (0, GREATEST + 1, None):
            self.assertRaises(NoNumber, wrong_from, self.rules, 5, number)
            self.assertRaises(NoNumber, wrong_place, self.rules, number, 0)
            self.assertRaises(NoNumber, wrong_place, self.rules, 7, number)
        self.assertRaises(NoLater, wrong_place, self.rules, 7, 7)

    def test_they_are_told_of_kinds_of_other_bases_alone(self):
        self.assertEqual(first_when(turning(multiple(10, 7)), 1, 0, by_length(10, 3)), 100)
        self.assertEqual(silent(turning(by_length(10, 3)), 100), [])


if __name__ == "__main__":
    unittest.main()
