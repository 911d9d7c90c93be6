"""Live rounds, call by call."""

import copy
import unittest

from buzzround.always import wrong_place
from buzzround.errors import NoCount, NoLater, NoNumber, NoPeople, NothingToUndo
from buzzround.kinds import bears, ends, every, multiple
from buzzround.live import Round
from buzzround.places import direction, place, said, speaker
from buzzround.rules import Rules
from buzzround.tallies import spoken_by_all
from tests.plain import GREATEST, STRANGE, just_200, wrong_integers
from tests.rounds import AGAIN, LOTS, PEOPLE, TURN, Lot, step_and_sign


class PlainRound:
    """A round that counts on number by number, and keeps all its states."""

    def __init__(self, lot, people):
        self.people = people
        self.kept = []
        self.state = (lot, 1, 0, 1, ())

    def one(self, heard, error=False):
        lot, number, spot, sign, said_by_now = self.state
        effects = [] if error else lot.effects(number)
        words = [effect[1] for effect in effects if effect[0] == "say"]
        told = (spot % self.people, " ".join(words) or str(number))
        step, turned = step_and_sign(effects)
        if heard:
            said_by_now = (*said_by_now, (number, *told))
        self.state = (lot, number + 1, spot + sign * turned * step, sign * turned, said_by_now)
        return told

    def call(self, word, *parts):
        if word == "undo":
            self.state = self.kept.pop()
            return None
        self.kept.append(self.state)
        if word == "say":
            return self.one(True)
        if word == "err":
            return self.one(True, error=True)
        if word == "say_many":
            return [self.one(True) for _ in range(parts[0])]
        if word == "change":
            self.state = (parts[0], *self.state[1:])
        if word == "go_to":
            while self.state[1] < parts[0]:
                self.one(False)
        return None


def told_by(live):
    return (live.number, live.person, live.place, live.direction, live.people, len(live), live.heard(),
            [person for person in range(-1, live.people + 1) if person in live])


def told_plainly(plain):
    lot, number, spot, sign, heard = plain.state
    voices = {person for _, person, _ in heard}
    return (number, spot % plain.people, spot, sign, plain.people, len(plain.kept), list(heard),
            [person for person in range(plain.people) if person in voices])


def some_calls(seed, many):
    """Calls of all sorts, always the same for a seed. Of go_to it is told how far to go."""
    mixed = seed * 7919 + 13
    for _ in range(many):
        mixed = (mixed * 1103515245 + 12345) % 2 ** 31
        sort, more = (mixed >> 8) % 11, (mixed >> 16) % 23
        if sort < 3:
            yield "say",
        elif sort == 3:
            yield "say_many", more % 9
        elif sort < 6:
            yield "go_to", more
        elif sort < 8:
            yield "err",
        elif sort == 8:
            yield "change", more
        else:
            yield "undo",


def step_both(case, live, plain, call):
    """Does a call of some_calls in a live round and in a plain one."""
    word, parts = call[0], list(call[1:])
    if word == "undo" and not plain.kept:
        case.assertRaises(NothingToUndo, live.undo)
        return
    if word == "go_to":
        parts = [plain.state[1] + parts[0]]
    if word == "change":
        lot = LOTS[(parts[0] * 7 + plain.state[1]) % len(LOTS)]
        case.assertIsNone(live.change(lot.rules))
        plain.call("change", lot)
        return
    case.assertEqual(getattr(live, word)(*parts), plain.call(word, *parts))


class Calls(unittest.TestCase):
    def test_like_counting_on(self):
        for at, lot in enumerate(LOTS):
            people = PEOPLE[at % len(PEOPLE)]
            live, plain = Round(lot.rules, people), PlainRound(lot, people)
            self.assertEqual(told_by(live), told_plainly(plain))
            for call in some_calls(at, 60):
                step_both(self, live, plain, call)
                self.assertEqual(told_by(live), told_plainly(plain))
                self.assertEqual(live.rules, plain.state[0].rules)
            for _ in range(len(live)):
                step_both(self, live, plain, ("undo",))
                self.assertEqual(told_by(live), told_plainly(plain))
            self.assertEqual(told_by(live), told_by(Round(lot.rules, people)))
            self.assertIs(live.rules, lot.rules)
            self.assertRaises(NothingToUndo, live.undo)

    def test_saying_all(self):
        for at, lot in enumerate(LOTS):
            people = PEOPLE[at % len(PEOPLE)]
            live = Round(lot.rules, people)
            told = live.say_many(200)
            self.assertEqual(told, [(speaker(lot.rules, people, number), said(lot.rules, number))
                                    for number in range(1, 201)])
            self.assertEqual(live.say(), (speaker(lot.rules, people, 201), said(lot.rules, 201)))
            self.assertEqual((live.number, live.place, live.direction),
                             (202, place(lot.rules, 202), direction(lot.rules, 202)))
            times = spoken_by_all(lot.rules, people, 201)
            self.assertEqual([person for person in range(people) if person in live],
                             [person for person in range(people) if times[person]])

    def test_the_first_number(self):
        live = Round(Rules(10), 5)
        self.assertEqual(told_by(live), (1, 0, 0, 1, 5, 0, [], []))
        self.assertEqual(live.say(), (0, "1"))
        self.assertEqual(told_by(live), (2, 1, 1, 1, 5, 1, [(1, 0, "1")], [0]))

    def test_going_far(self):
        for at, lot in enumerate(LOTS):
            people = PEOPLE[at % len(PEOPLE)]
            rules = lot.rules
            live = Round(rules, people)
            for number in (1, 2, 10 ** 6, 10 ** 20, 10 ** 20 + 1, GREATEST - 5):
                self.assertIsNone(live.go_to(number))
                self.assertEqual((live.number, live.place, live.direction, live.person),
                                 (number, place(rules, number), direction(rules, number),
                                  speaker(rules, people, number)))
            told = live.say_many(6)
            self.assertEqual(told, [(speaker(rules, people, number), said(rules, number))
                                    for number in range(GREATEST - 5, GREATEST + 1)])
            self.assertEqual(live.number, GREATEST + 1)
            self.assertEqual([number for number, _, _ in live.heard()], list(range(GREATEST - 5, GREATEST + 1)))

    def test_errors_are_like_wrong_places(self):
        for at, lot in enumerate(LOTS):
            for number in (1, 7, 12, 10 ** 30 + at):
                live = Round(lot.rules, 7)
                live.go_to(number)
                self.assertEqual(live.err(), (speaker(lot.rules, 7, number), str(number)))
                for later in (number + 1, number + 2, number + 50, 10 ** 35 + 3, GREATEST):
                    live.go_to(later)
                    self.assertEqual(live.place, wrong_place(lot.rules, number, later))

    def test_errors_one_behind_another(self):
        lot = LOTS[7]
        live, plain = Round(lot.rules, 7), PlainRound(lot, 7)
        for call in [("err",), ("err",), ("go_to", 20), ("err",), ("say_many", 5), ("err",), ("go_to", 333), ("say",)]:
            step_both(self, live, plain, call)
            self.assertEqual(told_by(live), told_plainly(plain))

    def test_other_rules_far_on(self):
        lot, other = LOTS[7], LOTS[8]
        self.assertNotEqual(lot.base, other.base)
        live = Round(lot.rules, 7)
        first, second = 10 ** 30 + 1, 10 ** 38 + 5
        live.go_to(first)
        self.assertIsNone(live.change(other.rules))
        self.assertEqual((live.number, live.place, live.direction, live.rules),
                         (first, place(lot.rules, first), direction(lot.rules, first), other.rules))
        live.go_to(second)
        same = direction(lot.rules, first) * direction(other.rules, first)
        moved = place(other.rules, second) - place(other.rules, first)
        self.assertEqual(live.place, place(lot.rules, first) + same * moved)
        self.assertEqual(live.direction, same * direction(other.rules, second))
        self.assertEqual(live.say(), (live.heard()[0][1], said(other.rules, second)))
        for _ in range(3):
            live.undo()
        self.assertEqual((live.rules, live.number, live.place), (lot.rules, first, place(lot.rules, first)))

    def test_a_say_many_is_one_call(self):
        live = Round(LOTS[7].rules, 5)
        self.assertEqual(live.say_many(0), [])
        self.assertEqual((len(live), live.number), (1, 1))
        self.assertEqual(len(live.say_many(200)), 200)
        self.assertEqual(len(live), 2)
        live.undo()
        self.assertEqual(told_by(live), (1, 0, 0, 1, 5, 1, [], []))
        live.undo()
        self.assertEqual(len(live), 0)

    def test_undo_returns_none_and_is_no_call(self):
        live = Round(LOTS[7].rules, 5)
        calls = [(live.say,), (live.say_many, 12), (live.go_to, 40), (live.err,), (live.change, LOTS[8].rules),
                 (live.go_to, live.number + 80), (live.say,)]
        states = []
        for call in calls:
            states.append((told_by(live), live.rules))
            call[0](*call[1:])
        for state in reversed(states):
            self.assertIsNone(live.undo())
            self.assertEqual((told_by(live), live.rules), state)
        self.assertRaises(NothingToUndo, live.undo)
        live.say()
        live.undo()
        self.assertRaises(NothingToUndo, live.undo)

    def test_somebody_who_is_taken_back_has_not_spoken(self):
        live = Round(Rules(10), 3)
        live.say_many(4)
        live.say()
        live.undo()
        self.assertEqual([person for person in range(3) if person in live], [0, 1, 2])
        live.undo()
        self.assertEqual([person for person in range(3) if person in live], [])
        live.go_to(5)
        self.assertEqual((live.person, live.person in live, live.heard()), (1, False, []))
        live.err()
        self.assertEqual((1 in live, live.heard()), (True, [(5, 1, "5")]))

    def test_as_many_calls_as_are_let(self):
        live, plain = Round(LOTS[7].rules, 100), PlainRound(LOTS[7], 100)
        for _ in range(190):
            live.say_many(200)
        self.assertEqual((len(live), len(live.heard()), live.number), (190, 38000, 38001))
        self.assertEqual(live.place, place(LOTS[7].rules, 38001))
        for _ in range(190):
            live.undo()
        self.assertEqual(told_by(live), told_plainly(plain))

    def test_great_rules(self):
        kind = just_200()
        rules = Rules(3, ((kind, TURN), (~kind, ("skip", 9)), (kind, AGAIN), (kind, ("say", "buzz"))))
        live = Round(rules, 100)
        live.go_to(GREATEST - 199)
        self.assertEqual(live.say_many(200), [
            (speaker(rules, 100, number), said(rules, number)) for number in range(GREATEST - 199, GREATEST + 1)
        ])


class Ends(unittest.TestCase):
    def test_no_number_beyond_the_greatest_is_said(self):
        for at, lot in enumerate(LOTS):
            live = Round(lot.rules, 7)
            live.go_to(GREATEST)
            for count in (2, 3, 200):
                self.assertRaises(NoNumber, live.say_many, count)
            self.assertEqual((len(live), live.number, live.heard()), (1, GREATEST, []))
            (live.say, live.err, lambda: live.say_many(1))[at % 3]()
            told = told_by(live)
            self.assertEqual(told[0], GREATEST + 1)
            self.assertRaises(NoNumber, live.say)
            self.assertRaises(NoNumber, live.err)
            self.assertRaises(NoNumber, live.say_many, 1)
            self.assertRaises(NoLater, live.go_to, GREATEST)
            self.assertRaises(NoNumber, live.go_to, GREATEST + 1)
            self.assertEqual(told_by(live), told)
            self.assertEqual(live.say_many(0), [])
            live.change(Rules(2))
            self.assertEqual((len(live), live.place), (4, told[2]))
            for _ in range(3):
                live.undo()
            self.assertEqual((live.number, live.heard()), (GREATEST, []))

    def test_only_the_last_one_is_beyond(self):
        live = Round(LOTS[7].rules, 5)
        live.go_to(GREATEST - 199)
        self.assertEqual(len(live.say_many(200)), 200)
        live.undo()
        live.say()
        told = told_by(live)
        self.assertRaises(NoNumber, live.say_many, 200)
        self.assertEqual(told_by(live), told)
        self.assertEqual(len(live.say_many(199)), 199)


class WrongInputs(unittest.TestCase):
    def test_people(self):
        for people in wrong_integers(1, 100):
            self.assertRaises(NoPeople, Round, Rules(10), people)
        self.assertEqual([Round(Rules(10), people).people for people in (1, 100)], [1, 100])

    def test_counts(self):
        live = Round(LOTS[7].rules, 5)
        live.go_to(GREATEST)
        for count in wrong_integers(0, 200):
            self.assertRaises(NoCount, live.say_many, count)
        self.assertEqual(len(live), 1)

    def test_numbers_to_go_to(self):
        live = Round(LOTS[7].rules, 5)
        live.say_many(30)
        told = told_by(live)
        for number in wrong_integers(1, GREATEST):
            self.assertRaises(NoNumber, live.go_to, number)
        for number in (1, 2, 29, 30):
            self.assertRaises(NoLater, live.go_to, number)
        self.assertEqual(told_by(live), told)
        self.assertIsNone(live.go_to(31))
        self.assertEqual((told_by(live)[:4], len(live)), (told[:4], 2))
        live.go_to(32)
        self.assertRaises(NoLater, live.go_to, 31)

    def test_a_refused_call_is_not_taken_back(self):
        live = Round(LOTS[7].rules, 5)
        live.say()
        told = told_by(live)
        live.say()
        self.assertRaises(NoCount, live.say_many, 201)
        self.assertRaises(NoLater, live.go_to, 2)
        self.assertRaises(NoNumber, live.go_to, 0)
        live.undo()
        self.assertEqual(told_by(live), told)

    def test_what_is_no_person(self):
        live = Round(Rules(10), 2)
        live.say_many(5)
        for value in (*STRANGE, -1, 2, 10 ** 59, -10 ** 59, 0.0, 1.0):
            self.assertIs(value in live, False)
        self.assertIs(0 in live, True)
        self.assertIs(1 in live, True)

    def test_properties_are_not_assigned(self):
        live = Round(Rules(10), 2)
        for name in ("number", "person", "place", "direction", "people", "rules"):
            with self.assertRaises(AttributeError):
                setattr(live, name, 1)


class Apart(unittest.TestCase):
    def test_two_rounds_by_turns(self):
        for one, other in ((7, 8), (6, 7), (7, 7), (30, 9)):
            rounds = [(Round(LOTS[at].rules, people), PlainRound(LOTS[at], people))
                      for at, people in ((one, 5), (other, 7), (one, 5))]
            calls = [list(some_calls(one * 3 + seed, 40)) for seed in range(3)]
            for at in range(40):
                for (live, plain), told in zip(rounds, calls):
                    step_both(self, live, plain, told[at])
                for live, plain in rounds:
                    self.assertEqual(told_by(live), told_plainly(plain))

    def test_what_was_returned_is_not_kept(self):
        live = Round(LOTS[7].rules, 5)
        many = live.say_many(20)
        heard = live.heard()
        told = copy.deepcopy(heard)
        many.reverse()
        heard.append((21, 0, "x"))
        heard[0] = None
        self.assertEqual(live.heard(), told)
        live.say()
        live.undo()
        self.assertEqual(live.heard(), told)

    def test_kinds_of_values(self):
        live = Round(LOTS[7].rules, 5)
        for told in (live.say(), live.err(), *live.say_many(3)):
            self.assertEqual((type(told), type(told[0]), type(told[1])), (tuple, int, str))
        self.assertEqual((type(live.say_many(2)), type(live.heard()), type(len(live))), (list, list, int))
        self.assertEqual([tuple(type(part) for part in one) for one in live.heard()], [(int, int, str)] * 7)
        for value in (live.number, live.person, live.place, live.direction, live.people):
            self.assertIs(type(value), int)
        self.assertIs(type(live.rules), Rules)
        self.assertIs(type(0 in live), bool)

    def test_by_hand(self):
        kind = multiple(10, 7) | bears(10, 7)
        live = Round(Rules(10, ((kind, ("say", "buzz")), (bears(10, 7), TURN), (ends(10, 9), ("skip", 2)))), 4)
        live.go_to(6)
        self.assertEqual(live.say_many(5), [(1, "6"), (2, "buzz"), (1, "8"), (0, "9"), (1, "10")])
        self.assertEqual((live.number, live.person, live.place, live.direction), (11, 0, 0, -1))
        live.change(Rules(2, ((every(2), AGAIN),)))
        self.assertEqual(live.say_many(3), [(0, "11"), (0, "12"), (0, "13")])
        self.assertEqual(live.err(), (0, "14"))
        self.assertEqual((live.place, live.person), (-1, 3))

    def test_arguments_by_name(self):
        live = Round(people=5, rules=LOTS[7].rules)
        self.assertEqual(len(live.say_many(count=3)), 3)
        live.go_to(number=50)
        live.change(rules=LOTS[8].rules)
        self.assertEqual((live.number, live.rules, len(live)), (50, LOTS[8].rules, 3))

    def test_a_lot_that_is_not_of_the_shared_ones(self):
        sevens = Lot(8, [(multiple(8, 7), lambda number: number % 7 == 0, TURN)])
        live, plain = Round(sevens.rules, 3), PlainRound(sevens, 3)
        for call in some_calls(99, 200):
            step_both(self, live, plain, call)
            self.assertEqual(told_by(live), told_plainly(plain))


if __name__ == "__main__":
    unittest.main()
