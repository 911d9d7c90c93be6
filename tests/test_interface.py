"""The interface: names, arguments, and where they are defined."""

import inspect
import unittest

from buzzround import always, desks, guesses, kinds, live, places, rules, tables, tallies, texts
from buzzround.desks import Desk
from buzzround.kinds import Kind
from buzzround.live import Round
from buzzround.rules import Rules

FUNCTIONS = {
    kinds: {
        "multiple": "(base, number)",
        "rest": "(base, number, rest)",
        "bears": "(base, figure)",
        "ends": "(base, figure)",
        "figure_sum": "(base, number, rest)",
        "every": "(base)",
    },
    places: {
        "place": "(rules, number)",
        "direction": "(rules, number)",
        "speaker": "(rules, people, number)",
        "said": "(rules, number)",
        "swing": "(rules, number)",
    },
    tallies: {
        "spoken": "(rules, people, person, number)",
        "spoken_by_all": "(rules, people, number)",
        "words": "(rules, number)",
        "turns": "(rules, number)",
        "turn_of": "(rules, people, person, times)",
    },
    always: {
        "first_when": "(rules, people, person, kind)",
        "ever_speaks": "(rules, people, person)",
        "silent": "(rules, people)",
        "told_apart": "(rules, other)",
        "wrong_from": "(rules, people, number)",
        "wrong_place": "(rules, number, later)",
    },
    guesses: {
        "people_for": "(rules, looks, most)",
        "least_look": "(rules, counts, number)",
    },
    tables: {
        "plain_machine": "(rules)",
        "plain_marks": "(rules)",
        "table": "(rules, levels)",
        "is_table": "(rules, thing)",
        "is_sign_paper": "(rules, thing)",
        "place_by": "(machine, thing, number)",
        "sign_at": "(thing, state, level)",
        "sign_paper": "(rules)",
    },
    texts: {
        "read_kind": "(base, text)",
        "read_machine": "(text)",
        "read_rules": "(text)",
        "kind_text": "(kind)",
    },
}
KIND = {
    "__and__": "(self, other)",
    "__or__": "(self, other)",
    "__xor__": "(self, other)",
    "__invert__": "(self)",
    "__eq__": "(self, other)",
    "__contains__": "(self, number)",
    "base": "(self)",
    "size": "(self)",
    "count": "(self, number)",
    "nth": "(self, place)",
    "after": "(self, number)",
    "least": "(self)",
    "unlike": "(self, other)",
    "is_finite": "(self)",
}
RULES = {
    "__init__": "(self, base, rows=())",
    "__eq__": "(self, other)",
    "base": "(self)",
    "rows": "(self)",
    "size": "(self)",
    "holding": "(self, number)",
}
ROUND = {
    "__init__": "(self, rules, people)",
    "__contains__": "(self, person)",
    "__len__": "(self)",
    "say": "(self)",
    "say_many": "(self, count)",
    "go_to": "(self, number)",
    "err": "(self)",
    "change": "(self, rules)",
    "undo": "(self)",
    "heard": "(self)",
}
PROPERTIES = ("number", "person", "place", "direction", "people", "rules")
DESK = {
    "__init__": "(self)",
    "order": "(self, text)",
}


class Interface(unittest.TestCase):
    def test_functions_stand_in_their_file(self):
        for file, functions in FUNCTIONS.items():
            for name, arguments in functions.items():
                with self.subTest(file=file.__name__, name=name):
                    function = getattr(file, name)
                    self.assertEqual((function.__module__, function.__name__), (file.__name__, name))
                    self.assertEqual(str(inspect.signature(function)), arguments)

    def test_methods_stand_in_their_class(self):
        for own, file, methods in (
            (Kind, kinds, KIND), (Rules, rules, RULES), (Round, live, ROUND), (Desk, desks, DESK),
        ):
            self.assertEqual(own.__module__, file.__name__)
            for name, arguments in methods.items():
                with self.subTest(own=own.__name__, name=name):
                    self.assertEqual(str(inspect.signature(vars(own)[name])), arguments)

    def test_properties_stand_in_their_class(self):
        for name in PROPERTIES:
            self.assertIsInstance(vars(Round)[name], property)

    def test_arguments_by_name(self):
        self.assertEqual(kinds.multiple(number=7, base=10), kinds.multiple(10, 7))
        self.assertEqual(kinds.rest(rest=2, number=7, base=10), kinds.rest(10, 7, 2))
        self.assertEqual(kinds.bears(figure=7, base=10), kinds.bears(10, 7))
        self.assertEqual(kinds.ends(figure=7, base=10), kinds.ends(10, 7))
        self.assertEqual(kinds.figure_sum(rest=2, number=7, base=10), kinds.figure_sum(10, 7, 2))
        self.assertEqual(kinds.every(base=10), kinds.every(10))
        kind = kinds.multiple(10, 7)
        told = kind.count(number=70), kind.nth(place=3), kind.after(number=21), kind.unlike(other=kinds.every(10))
        self.assertEqual(told, (10, 21, 28, 1))
        lot = Rules(rows=((kind, ("turn",)),), base=10)
        self.assertEqual((lot.base(), lot.holding(number=14)), (10, [0]))

    def test_arguments_of_a_round_by_name(self):
        lot = Rules(10, ((kinds.multiple(10, 7), ("turn",)), (kinds.bears(10, 3), ("say", "b"))))
        told = [
            (places.place(number=9, rules=lot), places.place(lot, 9)),
            (places.direction(number=9, rules=lot), places.direction(lot, 9)),
            (places.speaker(number=9, people=5, rules=lot), places.speaker(lot, 5, 9)),
            (places.said(number=9, rules=lot), places.said(lot, 9)),
            (places.swing(number=9, rules=lot), places.swing(lot, 9)),
            (tallies.spoken(number=9, person=2, people=5, rules=lot), tallies.spoken(lot, 5, 2, 9)),
            (tallies.spoken_by_all(number=9, people=5, rules=lot), tallies.spoken_by_all(lot, 5, 9)),
            (tallies.words(number=30, rules=lot), tallies.words(lot, 30)),
            (tallies.turns(number=30, rules=lot), tallies.turns(lot, 30)),
            (tallies.turn_of(times=3, person=2, people=5, rules=lot), tallies.turn_of(lot, 5, 2, 3)),
        ]
        for by_name, by_position in told:
            self.assertEqual(by_name, by_position)

    def test_arguments_about_all_numbers_by_name(self):
        kind = kinds.multiple(10, 6)
        lot = Rules(10, ((kinds.multiple(10, 7), ("turn",)), (kinds.bears(10, 3), ("say", "b"))))
        told = [
            (always.first_when(kind=kind, person=2, people=5, rules=lot), always.first_when(lot, 5, 2, kind)),
            (always.ever_speaks(person=2, people=5, rules=lot), always.ever_speaks(lot, 5, 2)),
            (always.silent(people=9, rules=lot), always.silent(lot, 9)),
            (always.told_apart(other=Rules(10), rules=lot), always.told_apart(lot, Rules(10))),
            (always.wrong_from(number=7, people=5, rules=lot), always.wrong_from(lot, 5, 7)),
            (always.wrong_place(later=9, number=7, rules=lot), always.wrong_place(lot, 7, 9)),
            (guesses.people_for(most=9, looks=[(7, 1)], rules=lot), guesses.people_for(lot, [(7, 1)], 9)),
            (guesses.least_look(number=9, counts=[2, 3], rules=lot), guesses.least_look(lot, [2, 3], 9)),
        ]
        for by_name, by_position in told:
            self.assertEqual(by_name, by_position)

    def test_arguments_of_tables_by_name(self):
        lot = Rules(10, ((kinds.multiple(10, 7), ("turn",)), (kinds.bears(10, 3), ("say", "b"))))
        machine, thing = tables.plain_machine(rules=lot), tables.table(levels=5, rules=lot)
        paper = tables.sign_paper(rules=lot)
        told = [
            (machine, tables.plain_machine(lot)),
            (tables.plain_marks(rules=lot), tables.plain_marks(lot)),
            (thing, tables.table(lot, 5)),
            (tables.is_table(thing=thing, rules=lot), True),
            (tables.place_by(number=777, thing=thing, machine=machine), places.place(lot, 777)),
            (paper, tables.sign_paper(lot)),
            (tables.is_sign_paper(thing=paper, rules=lot), True),
            (tables.sign_at(level=7, state=3, thing=paper), tables.sign_at(paper, 3, 7)),
            (texts.read_kind(text="multiple 7", base=10), kinds.multiple(10, 7)),
            (texts.read_rules(text="base 10"), Rules(10)),
            (texts.read_machine(text=texts.kind_text(kind=kinds.multiple(10, 7))), kinds.multiple(10, 7)),
            (Round(people=5, rules=lot).people, 5),
            (Desk().order(text="who 7"), "1 7"),
        ]
        for by_name, by_position in told:
            self.assertEqual(by_name, by_position)

    def test_kinds_of_values_of_a_round(self):
        kind = kinds.multiple(10, 6)
        lot = Rules(10, ((kinds.multiple(10, 7), ("turn",)), (kinds.bears(10, 3), ("say", "b"))))
        for value in (
            places.place(lot, 9), places.direction(lot, 9), places.speaker(lot, 5, 9), *places.swing(lot, 9),
            tallies.spoken(lot, 5, 2, 9), *tallies.spoken_by_all(lot, 5, 9), tallies.words(lot, 9),
            tallies.turns(lot, 9), tallies.turn_of(lot, 5, 2, 3), always.first_when(lot, 5, 0, kind),
            *always.silent(lot, 100), always.told_apart(lot, Rules(10)), always.wrong_from(lot, 5, 7),
            always.wrong_place(lot, 7, 9), *guesses.people_for(lot, [(1, 0)], 9), guesses.least_look(lot, [2, 3], 9),
        ):
            self.assertIs(type(value), int)
        self.assertIs(type(always.ever_speaks(lot, 5, 2)), bool)
        self.assertEqual((type(places.said(lot, 3)), type(places.said(lot, 4))), (str, str))
        self.assertIs(type(places.swing(lot, 9)), tuple)
        for value in (tallies.spoken_by_all(lot, 5, 9), always.silent(lot, 5), guesses.people_for(lot, [], 9)):
            self.assertIs(type(value), list)

    def test_kinds_of_values(self):
        kind = kinds.multiple(10, 7)
        for value in (kind.base(), kind.size(), kind.count(20), kind.nth(2), kind.after(9), kind.least()):
            self.assertIs(type(value), int)
        for value in (kind.unlike(kinds.every(10)), Rules(10).base(), Rules(10).size()):
            self.assertIs(type(value), int)
        for value in (7 in kind, 8 in kind, kind.is_finite(), (kind & ~kind).is_finite(), kind == kind, kind == 7):
            self.assertIs(type(value), bool)
        for made in (kind & kind, kind | kind, kind ^ kind, ~kind):
            self.assertIs(type(made), Kind)
        self.assertIs(type(Rules(10).rows()), tuple)
        self.assertIs(type(Rules(10).holding(1)), list)


if __name__ == "__main__":
    unittest.main()
