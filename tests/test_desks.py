"""The desk, held against the functions."""

import unittest

from buzzround.always import first_when, silent
from buzzround.desks import Desk
from buzzround.errors import (
    NoName, NoOrder, NoPerson, NoRoom, NoRow, NothingToUndo, RoundError, TooWide,
)
from buzzround.kinds import bears, ends, every, figure_sum, multiple
from buzzround.places import place, said, speaker, swing
from buzzround.rules import Rules
from buzzround.tallies import spoken_by_all
from buzzround.texts import read_kind
from tests.plain import GREATEST, STRANGE
from tests.test_expressions import EFFECTS, NO_EFFECTS, NO_EXPRESSIONS
from tests.written import Mixed, deep, some_expression, tests_of

RESERVED = "multiple rest bears ends sum every not and or xor".split()
WIDE = "( sum 12 1 and ( multiple 11 and sum 5 0 ) )"
# What is no number from 1 on in an order.
NO_NUMBERS = ("0", "-1", "+1", "01", "00", "1.0", "a", "", " 1", "1 ", "1e3", "1_0", "ten", str(GREATEST + 1), "9" * 60,
              "0" + str(GREATEST), "1,0", "1\n", "\t1", "None")
# Of the texts that are no expressions those in which words stand that could be names.
NAMED = ("ever", "everyy", "odd", "a", "name", "notevery", "( a and every )", "not a", "( every and b )")


class Held:
    """What a desk holds, and its answers by the functions."""

    def __init__(self):
        self.now = (10, {}, (), 5)
        self.kept = []

    def ask(self, word, *parts):
        base, kinds, rows, people = self.now
        rules = Rules(base, rows)
        if word == "undo":
            if not self.kept:
                raise NothingToUndo("none")
            self.now = self.kept.pop()
            return "undone"
        if word in ("base", "kind", "row", "drop", "people"):
            answer = self.do(word, parts)
            self.kept.append((base, kinds, rows, people))
            return answer
        number = parts[0] if parts else None
        if word == "who":
            return f"{speaker(rules, people, number)} {said(rules, number)}"
        if word == "from":
            return "\n".join(f"{one}: {speaker(rules, people, one)} {said(rules, one)}"
                             for one in range(number, parts[1] + 1))
        if word == "place":
            return str(place(rules, number))
        if word == "swing":
            return f"{swing(rules, number)[0]} {swing(rules, number)[1]}"
        if word == "tally":
            return " ".join(str(one) for one in spoken_by_all(rules, people, number))
        if word == "silent":
            return " ".join(str(one) for one in silent(rules, people)) or "none"
        if word == "ever":
            found = first_when(rules, people, number, kinds[parts[1]])
            return "never" if found is None else str(found)
        found = getattr(kinds[parts[0]], word)(parts[1])
        return "none" if found is None else str(found)

    def do(self, word, parts):
        base, kinds, rows, people = self.now
        if word == "base":
            self.now = (parts[0], {}, (), people)
            return f"base {parts[0]}"
        if word == "people":
            self.now = (base, kinds, rows, parts[0])
            return f"people {parts[0]}"
        if word == "kind":
            self.now = (base, {**kinds, parts[0]: parts[1]}, rows, people)
            return f"kind {parts[0]} {parts[1].size()}"
        if word == "row":
            if len(rows) == 6:
                raise NoRoom("six")
            Rules(base, (*rows, parts))
            self.now = (base, kinds, (*rows, parts), people)
        else:
            if parts[0] >= len(rows):
                raise NoRow(parts[0])
            self.now = (base, kinds, rows[:parts[0]] + rows[parts[0] + 1:], people)
        return f"rows {len(self.now[2])}"


class Both:
    """A desk and what it should hold, asked the same."""

    def __init__(self, case):
        self.case = case
        self.desk = Desk()
        self.held = Held()

    def ask(self, text, word, *parts):
        try:
            told = self.held.ask(word, *parts)
        except RoundError as error:
            self.refused(type(error), text)
            return None
        self.case.assertEqual(self.desk.order(text), told, text)
        return told

    def ask_plain(self, *words):
        """An order whose words are its parts."""
        text = " ".join(str(word) for word in words)
        if words[0] == "from":
            return self.ask(f"from {words[1]} to {words[2]}", *words)
        return self.ask(text, *words)

    def kind(self, name, text):
        base, kinds = self.held.now[:2]
        self.ask(f"kind {name} {text}", "kind", name, kinds[text] if text in kinds else read_kind(base, text))

    def row(self, text, effect=("turn", ("turn",))):
        base, kinds = self.held.now[:2]
        kind = kinds[text] if text in kinds else read_kind(base, text)
        self.ask(f"row {text} : {effect[0]}", "row", kind, effect[1])

    def refused(self, error, text):
        """An order is refused, and changes nothing."""
        ahead = self.all_answers()
        with self.case.assertRaises(error, msg=text) as caught:
            self.desk.order(text)
        self.case.assertIs(type(caught.exception), error)
        self.case.assertEqual(self.all_answers(), ahead)
        return caught.exception

    def all_answers(self):
        """What is told of all that a desk holds."""
        names = sorted(self.held.now[1])
        orders = ["silent", "from 1 to 30", "place 12345", "swing 100", "tally 1000"]
        orders += [f"nth {name} 3" for name in names] + [f"count {name} 5000" for name in names]
        return [self.desk.order(order) for order in orders]

    def like_functions(self):
        base, kinds, rows, people = self.held.now
        for number in (1, 7, 77, 10 ** 12 + 3, GREATEST - 1, GREATEST):
            for word in ("who", "place", "swing", "tally"):
                self.ask_plain(word, number)
        self.ask_plain("from", 1, 40)
        self.ask_plain("from", GREATEST - 39, GREATEST)
        self.ask_plain("silent")
        for name in kinds:
            for number in (1, 7, 10 ** 12, GREATEST):
                for word in ("count", "nth", "after"):
                    self.ask_plain(word, name, number)
            self.ask_plain("ever", people - 1, name)


class Orders(unittest.TestCase):
    def test_at_the_beginning(self):
        both = Both(self)
        both.like_functions()
        self.assertEqual(both.desk.order("tally 7"), "2 2 1 1 1")
        self.assertEqual(both.desk.order("from 1 to 2"), "1: 0 1\n2: 1 2")
        self.assertEqual(both.desk.order("silent"), "none")

    def test_by_hand(self):
        desk = Desk()
        for text, told in (
            ("kind seven multiple 7", "kind seven 7"), ("kind buzz ( seven or bears 7 )", "kind buzz 8"),
            ("row buzz : say buzz", "rows 1"), ("row bears 7 : turn", "rows 2"), ("who 7", "1 buzz"),
            ("who 8", "0 8"), ("from 6 to 9", "6: 0 6\n7: 1 buzz\n8: 0 8\n9: 4 9"), ("place 9", "4"),
            ("swing 20", "-4 6"), ("count buzz 1000000", "544479"), ("nth buzz 6", "28"), ("after buzz 69", "70"),
            (f"nth buzz {GREATEST}", "none"), ("tally 20", "4 4 4 4 4"), ("ever 3 seven", "35"),
            ("people 50", "people 50"), ("kind odd ends 3", "kind odd 2"), ("drop 1", "rows 1"), ("undo", "undone"),
            ("base 2", "base 2"), ("kind odd bears 0", "kind odd 2"), ("after odd 7", "8"), ("undo", "undone"),
            ("undo", "undone"), ("after odd 7", "13"), ("undo", "undone"), ("place 9", "4"),
            ("kind none not every", "kind none 1"), ("after none 3", "none"), ("ever 0 none", "never"),
            ("who 9", "4 9"),
        ):
            self.assertEqual(desk.order(text), told, text)
        self.assertIs(type(desk.order("undo")), str)
        self.assertEqual(Desk().order(text="people 3"), "people 3")

    def test_bases(self):
        for base in range(2, 17):
            both = Both(self)
            both.ask_plain("people", base + 3)
            both.kind("a", "multiple 3")
            both.row("a")
            both.ask_plain("base", base)
            both.refused(NoName, "count a 7")
            self.assertEqual(both.desk.order("silent"), "none")
            both.kind("a", f"( multiple 3 or bears {base - 1} )")
            both.kind("b", "( ends 1 and sum 2 1 )")
            both.row("a", ("say buzz", ("say", "buzz")))
            both.row("b", ("turn", ("turn",)))
            both.row("ends 0", ("skip 9", ("skip", 9)))
            both.row("not multiple 2", ("again", ("again",)))
            both.like_functions()
            for _ in range(6):
                both.ask_plain("undo")
            both.like_functions()
            for _ in range(4):
                both.ask_plain("undo")
            both.refused(NothingToUndo, "undo")

    def test_base_of_the_same_number_forgets_too(self):
        both = Both(self)
        both.kind("a", "multiple 3")
        both.row("a")
        both.ask_plain("people", 7)
        both.ask_plain("base", 10)
        both.refused(NoName, "count a 7")
        both.like_functions()
        self.assertEqual(both.desk.order("tally 7"), "1 1 1 1 1 1 1")
        both.ask_plain("undo")
        both.like_functions()

    def test_orders_of_all_sorts(self):
        for seed in range(16):
            both = Both(self)
            mixed = Mixed(seed)
            for _ in range(40):
                base, kinds, rows, people = both.held.now
                sort = mixed.below(16)
                name = mixed.one_of(("a", "b", "abcdefgh", "say", "base", "kind"))
                try:
                    if sort < 4:
                        both.kind(name, some_expression(base, mixed, 1 + mixed.below(3), small=True).text)
                    elif sort < 8:
                        known = sorted(kinds)
                        text = some_expression(base, mixed, 1 + mixed.below(3), small=True).text
                        both.row(mixed.one_of(known) if known and sort < 6 else text, mixed.one_of(EFFECTS))
                    elif sort == 8:
                        both.ask_plain("drop", mixed.below(7))
                    elif sort == 9:
                        both.ask_plain("people", 1 + mixed.below(100))
                    elif sort == 10 and mixed.below(3) == 0:
                        both.ask_plain("base", 2 + mixed.below(15))
                    elif sort < 13:
                        both.ask_plain("undo")
                    elif kinds:
                        self.ask_of_a_kind(both, mixed, mixed.one_of(sorted(kinds)))
                except TooWide:
                    pass
            both.like_functions()
            while both.held.kept:
                both.ask_plain("undo")
            both.ask_plain("undo")
            self.assertEqual(both.desk.order("tally 7"), "2 2 1 1 1")

    def ask_of_a_kind(self, both, mixed, name):
        number = mixed.one_of((1, mixed.below(1000) + 1, 10 ** 20, GREATEST))
        both.ask_plain(mixed.one_of(("count", "nth", "after")), name, number)
        both.ask_plain("ever", mixed.below(100), name)


class Kinds(unittest.TestCase):
    def test_expressions(self):
        for base in (2, 10, 16):
            both = Both(self)
            both.ask_plain("base", base)
            for at, one in enumerate(tests_of(base)):
                if at % 5 == 0:
                    both.kind("abcdefgh", one.text)
                    both.ask_plain("count", "abcdefgh", 10 ** 6)
            for at in range(8):
                both.kind("b", deep(base, 8, at).text)
                both.ask_plain("count", "b", 10 ** 6)
                both.refused(NoOrder, f"kind b {deep(base, 9, at).text}")
                both.refused(NoOrder, f"row {deep(base, 9, at).text} : turn")

    def test_names_are_expressions_of_the_depth_1(self):
        both = Both(self)
        both.kind("a", deep(10, 8).text)
        kind = read_kind(10, deep(10, 8).text)
        both.ask("kind b " + "not " * 7 + "a", "kind", "b", ~kind)
        both.refused(NoOrder, "kind b " + "not " * 8 + "a")
        both.ask("kind c ( not a or ( b and multiple 3 ) )", "kind", "c", ~kind | (~kind & multiple(10, 3)))
        both.ask("row ( a xor c ) : turn", "row", kind ^ (~kind | (~kind & multiple(10, 3))), ("turn",))
        both.like_functions()

    def test_a_kind_is_taken_as_it_is(self):
        both = Both(self)
        both.kind("a", "multiple 7")
        both.ask("kind b ( a or bears 3 )", "kind", "b", multiple(10, 7) | bears(10, 3))
        both.ask("row a : say buzz", "row", multiple(10, 7), ("say", "buzz"))
        both.ask("row not b : skip 3", "row", ~(multiple(10, 7) | bears(10, 3)), ("skip", 3))
        both.kind("a", "multiple 5")
        both.like_functions()
        both.ask("kind a ( a and ends 0 )", "kind", "a", multiple(10, 5) & ends(10, 0))
        both.like_functions()
        both.ask("kind b ( a or b )", "kind", "b", (multiple(10, 5) & ends(10, 0)) | multiple(10, 7) | bears(10, 3))
        both.like_functions()
        for _ in range(3):
            both.ask_plain("undo")
        both.ask("kind c b", "kind", "c", multiple(10, 7) | bears(10, 3))
        both.ask("row a : again", "row", multiple(10, 7), ("again",))
        both.like_functions()

    def test_names(self):
        both = Both(self)
        for name in ("a", "abcdefgh", "z", "kind", "base", "say", "turn", "silent", "undo", "from", "to", "sums", "no"):
            both.kind(name, "multiple 7")
            both.row(name)
            both.ask_plain("drop", 0)
            for word in ("count", "nth", "after"):
                both.ask_plain(word, name, 3)
            both.ask_plain("ever", 4, name)
            both.ask(f"kind {name} not {name}", "kind", name, ~multiple(10, 7))
        for name in (*RESERVED, "abcdefghi", "A", "aB", "a1", "a_b", "", " ", "1", "a-b", "(", ":", "a.b", "a\t",
                     "Multiple"):
            for text in (f"kind {name} every", f"count {name} 3", f"nth {name} 3", f"after {name} 3", f"ever 0 {name}"):
                both.refused(NoOrder, text)

    def test_names_that_are_not_known(self):
        both = Both(self)
        both.kind("known", "multiple 7")
        for name in ("a", "abcdefgh", "say", "know", "unknown", "silent"):
            for text in (
                f"count {name} 3", f"nth {name} 3", f"after {name} 3", f"ever 0 {name}", f"kind known {name}",
                f"kind {name} {name}", f"kind a not {name}", f"kind b ( known and {name} )",
                f"kind b ( {name} or known )", f"row {name} : turn", f"row not not ( known xor {name} ) : again",
                f"row ( {name} and {name} ) : say a",
            ):
                both.refused(NoName, text)
        both.ask_plain("count", "known", 14)
        for text in ("kind a every b", "kind a multiple b", "kind a ( a )", "kind a ( a and )", "kind a abcdefghi",
                     "kind a b c", "row a", "row a :", "row a : turns", "row a : say", "count a", "count a 0",
                     "count a b", "nth a 01",
                     "ever a 0", "ever 0 a b", "kind a ( b nor c )", "kind a sum", "kind a not and", "row or : turn"):
            both.refused(NoOrder, text)

    def test_figures_are_those_of_the_base(self):
        for base in range(2, 17):
            both = Both(self)
            both.ask_plain("base", base)
            both.kind("a", f"bears {base - 1}")
            both.ask(f"kind b ( a or ends {base - 1} )", "kind", "b", bears(base, base - 1))
            for text in (f"kind a bears {base}", f"kind a ( a or ends {base} )", f"row bears {base} : turn",
                         f"kind a ( unknown and ends {base} )"):
                both.refused(NoOrder, text)

    def test_too_wide(self):
        both = Both(self)
        both.kind("a", "( sum 12 1 and multiple 11 )")
        both.kind("b", "sum 5 0")
        for text in (f"kind c {WIDE}", f"row {WIDE} : turn", "kind c ( a and b )", "kind c not ( a xor b )",
                     "row ( a and b ) : turn",
                     "row ( not every and ( a and b ) ) : turn"):
            both.refused(TooWide, text)
        both.row("a")
        both.refused(TooWide, "row b : turn")
        both.refused(TooWide, "ever 0 b")
        both.ask_plain("ever", 0, "a")
        # Each error that comes first is told first.
        both.refused(NoOrder, f"kind multiple {WIDE}")
        both.refused(NoOrder, f"row {WIDE} : turns")
        both.refused(NoName, f"row ( {WIDE} and unknown ) : turn")
        both.refused(NoPerson, "ever 5 b")
        both.refused(NoName, "ever 5 unknown")
        both.refused(NoOrder, f"ever {GREATEST + 1} unknown")
        for _ in range(5):
            both.row("a")
        both.refused(NoRoom, "row b : turn")
        both.refused(NoRoom, f"row {WIDE} : turn")
        both.refused(NoName, "row unknown : turn")
        both.refused(NoOrder, "row unknown : turns")
        both.refused(NoOrder, "row multiple 13 : turn")


class Rows(unittest.TestCase):
    def test_six_rows_and_a_seventh(self):
        both = Both(self)
        for at, effect in enumerate(EFFECTS[:6]):
            both.refused(NoRow, f"drop {at}")
            both.row(f"ends {at}", effect)
        both.like_functions()
        both.refused(NoRoom, "row every : turn")
        both.ask_plain("drop", 3)
        both.row("every", EFFECTS[3])
        both.refused(NoRoom, "row every : turn")
        both.like_functions()

    def test_each_row_is_dropped(self):
        for at in range(6):
            both = Both(self)
            for spot, effect in enumerate(EFFECTS[:6]):
                both.row(f"multiple {spot + 2}" if spot < 4 else f"bears {spot}", effect)
            both.ask_plain("drop", at)
            both.like_functions()
            both.refused(NoRow, "drop 5")
            both.ask_plain("undo")
            both.like_functions()
            while both.held.now[2]:
                both.ask_plain("drop", at % len(both.held.now[2]))
                both.like_functions()
            both.refused(NoRow, "drop 0")

    def test_the_index_is_told(self):
        both = Both(self)
        both.row("every")
        for index in (1, 6, 7, 10 ** 20, GREATEST):
            self.assertEqual(both.refused(NoRow, f"drop {index}").index, index)
        for index in ("-1", "01", "00", "+0", "", "a", str(GREATEST + 1), "0 0", "0.0"):
            both.refused(NoOrder, f"drop {index}")
        both.ask_plain("drop", 0)

    def test_effects(self):
        for text, effect in EFFECTS:
            both = Both(self)
            both.row("multiple 3", (text, effect))
            both.like_functions()
        both = Both(self)
        for text in NO_EFFECTS:
            both.refused(NoOrder, f"row every : {text}")
            if text != " turn":
                both.refused(NoOrder, f"row every :{text}")


class Numbers(unittest.TestCase):
    def test_numbers(self):
        both = Both(self)
        both.kind("a", "multiple 7")
        for text in NO_NUMBERS:
            for order in (f"who {text}", f"place {text}", f"swing {text}", f"tally {text}", f"from {text} to 7",
                          f"from 1 to {text}", f"count a {text}", f"nth a {text}", f"after a {text}", f"base {text}",
                          f"people {text}"):
                both.refused(NoOrder, order)

    def test_people_and_bases(self):
        both = Both(self)
        for people in (1, 2, 99, 100):
            both.ask_plain("people", people)
            both.ask_plain("tally", 1000)
        for people in (0, 101, GREATEST):
            both.refused(NoOrder, f"people {people}")
        for base in (0, 1, 17, 100, GREATEST):
            both.refused(NoOrder, f"base {base}")

    def test_from(self):
        both = Both(self)
        both.kind("a", "multiple 7")
        both.row("a", ("say buzz", ("say", "buzz")))
        for first, last in ((1, 1), (1, 40), (7, 46), (GREATEST, GREATEST), (GREATEST - 39, GREATEST), (9, 10),
                            (100, 139)):
            told = both.ask_plain("from", first, last)
            self.assertEqual(len(told.split("\n")), last - first + 1)
        for first, last in ((1, 41), (7, 47), (2, 1), (7, 6), (GREATEST, 1), (GREATEST - 40, GREATEST), (1, GREATEST),
                            (GREATEST - 38, GREATEST + 1), (0, 3), (0, 0)):
            both.refused(NoOrder, f"from {first} to {last}")
        for text in ("from 1", "from 1 to", "from 1 2", "from 1 to 2 3", "from 1 TO 2", "from to 1 2", "from 1 to  2",
                     "from",
                     "from 1 a 2", "from 1 to 2 ", "from 1 - 2", "from a to b"):
            both.refused(NoOrder, text)

    def test_persons(self):
        both = Both(self)
        both.kind("a", "multiple 7")
        for people in (1, 5, 100):
            both.ask_plain("people", people)
            for person in (0, people - 1):
                both.ask_plain("ever", person, "a")
            for person in (people, people + 1, 10 ** 20, GREATEST):
                both.refused(NoPerson, f"ever {person} a")
        for text in ("-1", "00", "01", "a", "", str(GREATEST + 1), "1.0"):
            both.refused(NoOrder, f"ever {text} a")

    def test_a_person_who_is_no_longer_there(self):
        both = Both(self)
        both.kind("a", "multiple 7")
        both.ask_plain("people", 9)
        both.ask_plain("ever", 8, "a")
        both.ask_plain("people", 8)
        both.refused(NoPerson, "ever 8 a")
        both.ask_plain("ever", 7, "a")
        both.ask_plain("undo")
        both.ask_plain("ever", 8, "a")

    def test_silent_people(self):
        both = Both(self)
        both.kind("all", "every")
        both.row("all", ("again", ("again",)))
        self.assertEqual(both.ask_plain("silent"), "1 2 3 4")
        both.row("all", ("skip 2", ("skip", 2)))
        both.ask_plain("people", 6)
        self.assertEqual(both.ask_plain("silent"), "1 3 5")
        self.assertEqual(both.ask_plain("ever", 3, "all"), "never")
        self.assertEqual(both.ask_plain("ever", 4, "all"), "3")
        both.ask_plain("people", 1)
        self.assertEqual(both.ask_plain("silent"), "none")


class NoOrders(unittest.TestCase):
    def test_texts(self):
        both = Both(self)
        both.kind("a", "multiple 7")
        both.row("a")
        for text in (
            "", " ", "\n", "\t", "who", "who ", "who 1 ", " who 1", "who  1", "who 1 2", "who\t1", "who 1\n",
            "\nwho 1", "Who 1", "WHO 1", "whom 1", "wh 1", "place", "place a", "swing", "swing 1 2", "tally",
            "tally 1 1", "silent ", " silent", "silent 1", "silent\n", "Silent", "undo ", "undo 1", "undone",
            "undo\n", "Undo", "base", "base 10 10", "bases 10", "people", "people 5 5", "people five", "drop",
            "drop 0 0", "drop a", "kind", "kind ", "kind a", "kind a ", "kind every", "kind a  every",
            "kind  a every", "kind a every ", "kind a\tevery", "kind a every\n", "row", "row ", "row a", "row a : ",
            "row : turn", "row  : turn", "row a: turn", "row a :turn", "row a : turn ", "row  a : turn",
            "row a : turn\n", "row a : turn : turn", "row\na : turn", "count", "count a", "count 3", "count 3 a",
            "count a 3 3", "nth a", "after a", "nth 3 a", "after 3 a", "ever", "ever 0", "ever a", "ever a 0",
            "rows 1", "rule a : turn", "help", "say", "say_many 3", "go_to 3", "err", "is a 3", "size a", "least a",
            "base 10\n", "kind a multiple 7\nwho 1", "who 1 who 1", "a", "every", "multiple 7", ":", "who 1;",
            "# who 1", "undo undo", "turn", "to 1", "from", "who one",
        ):
            both.refused(NoOrder, text)
        both.like_functions()

    def test_expressions(self):
        both = Both(self)
        for text in NO_EXPRESSIONS:
            if text not in NAMED:
                both.refused(NoOrder, f"kind k {text}")
                if " : " not in text:
                    both.refused(NoOrder, f"row {text} : turn")
            else:
                both.refused(NoName, f"kind k {text}")
                both.refused(NoName, f"row {text} : turn")

    def test_other_values(self):
        both = Both(self)
        for value in (*STRANGE, 0, 1, ["undo"], ("undo",), b"undo", {"undo": 1}, ["who", "1"]):
            both.refused(NoOrder, value)

    def test_long_texts(self):
        both = Both(self)
        for text in ("kind a " + "not " * 1490 + "every", "row " + "( " * 2900 + " : turn",
                     "kind " + "a" * 5990 + " every", "who " + "1" * 60, "kind a " + "every and " * 590, "( " * 3000,
                     " " * 6000, "kind a " + "b " * 2900,
                     "row every : say " + "a" * 5900, "from 1 to " * 600):
            both.refused(NoOrder, text)


class Undo(unittest.TestCase):
    def test_each_sort_of_order(self):
        both = Both(self)
        both.kind("a", "multiple 7")
        both.kind("a", "multiple 5")
        both.row("a", ("say buzz", ("say", "buzz")))
        both.row("bears 3")
        both.ask_plain("people", 8)
        both.ask_plain("drop", 0)
        both.ask_plain("base", 3)
        both.kind("a", "bears 2")
        both.row("a")
        states = []
        while both.held.kept:
            both.like_functions()
            states.append(both.held.now)
            both.ask_plain("undo")
        self.assertEqual(len(states), 9)
        both.like_functions()
        both.refused(NoName, "count a 7")
        both.refused(NothingToUndo, "undo")
        both.refused(NothingToUndo, "undo")
        both.kind("b", "multiple 3")
        both.ask_plain("undo")
        both.refused(NothingToUndo, "undo")

    def test_questions_and_refused_orders_are_not_taken_back(self):
        both = Both(self)
        both.kind("a", "multiple 7")
        for text in ("who 3", "from 1 to 3", "place 3", "swing 3", "count a 3", "nth a 3", "after a 3", "tally 3",
                     "ever 0 a",
                     "silent"):
            both.desk.order(text)
        both.refused(NoRow, "drop 3")
        both.refused(NoOrder, "people 101")
        both.refused(NoName, "row b : turn")
        both.ask_plain("undo")
        both.refused(NoName, "count a 7")
        both.refused(NothingToUndo, "undo")

    def test_the_same_again_is_an_order_too(self):
        both = Both(self)
        for _ in range(3):
            both.ask_plain("people", 5)
            both.ask_plain("base", 10)
        for _ in range(6):
            both.ask_plain("undo")
        both.refused(NothingToUndo, "undo")

    def test_as_many_orders_as_are_let(self):
        both = Both(self)
        for at in range(190):
            name = "abcdefgh"[at % 8] + "abcdefgh"[at // 8 % 8]
            both.kind(name, f"( bears {at % 10} or ends {at // 10 % 10} )")
        for at in range(190):
            both.ask_plain("undo")
        both.refused(NothingToUndo, "undo")


class Apart(unittest.TestCase):
    def test_two_desks_by_turns(self):
        one, other = Both(self), Both(self)
        one.kind("a", "multiple 7")
        other.ask_plain("base", 16)
        other.kind("a", "bears 15")
        one.row("a")
        other.refused(NoName, "row b : turn")
        other.row("a", ("skip 3", ("skip", 3)))
        other.ask_plain("people", 9)
        for both in (one, other):
            both.like_functions()
        one.ask_plain("undo")
        other.ask_plain("undo")
        one.like_functions()
        other.like_functions()
        one.ask_plain("undo")
        one.refused(NothingToUndo, "undo")
        other.like_functions()

    def test_great_rules(self):
        both = Both(self)
        both.ask_plain("base", 3)
        both.ask_plain("people", 100)
        both.kind("wide", "( ( multiple 5 and sum 5 0 ) and multiple 8 )")
        self.assertEqual(both.ask("kind wide wide", "kind", "wide", both.held.now[1]["wide"]), "kind wide 200")
        both.row("wide")
        both.ask("row not wide : skip 9", "row", ~both.held.now[1]["wide"], ("skip", 9))
        both.like_functions()
        self.assertEqual(both.held.now[1]["wide"], multiple(3, 5) & figure_sum(3, 5, 0) & multiple(3, 8))

    def test_what_is_not_kept_of_texts(self):
        self.assertEqual(Desk().order("kind a every"), "kind a 1")
        self.assertEqual(every(10).size(), 1)
        with self.assertRaises(NoName):
            Desk().order("count a 3")


if __name__ == "__main__":
    unittest.main()
