"""Texts of least machines."""

import unittest

from buzzround.errors import NoText
from buzzround.kinds import Kind, bears, every, multiple
from buzzround.rules import Rules
from buzzround.tables import plain_machine
from buzzround.texts import kind_text, read_kind, read_machine
from tests.drawn import by_length, least_drawing, some_drawing, state_of, text_of, turning_wheels
from tests.plain import STRANGE, just_200, ones, powers_of_ten, simple_kinds

DRAWINGS = ((2, 2, 1), (2, 5, 2), (3, 9, 3), (4, 17, 4), (7, 40, 5), (10, 12, 6), (10, 33, 7), (11, 8, 8), (16, 25, 9),
            (16, 3, 10), (2, 100, 11), (13, 64, 12))
# bears(2, 0): the state 1 has met no 0, the state 2 has.
BEARS = ["base 2", "- 1", "2 1", "2 2 +"]
# The rests by 3 in the base 10.
THREES = ["base 10", "- 1 2 3 1 2 3 1 2 3", "1 2 3 1 2 3 1 2 3 1", "2 3 1 2 3 1 2 3 1 2", "3 1 2 3 1 2 3 1 2 3 +"]


class KindText(unittest.TestCase):
    def test_by_hand(self):
        self.assertEqual(kind_text(every(3)), "base 3\n- 1 1\n1 1 1 +")
        self.assertEqual(kind_text(~every(2)), "base 2\n- 1\n1 1")
        self.assertEqual(kind_text(bears(2, 0)), "\n".join(BEARS))
        self.assertEqual(kind_text(kind=multiple(10, 3)), "\n".join(THREES))
        self.assertIs(type(kind_text(every(2))), str)

    def test_of_drawings(self):
        for base, size, seed in DRAWINGS:
            drawn = some_drawing(base, size, seed)
            rows, inside = least_drawing(*drawn)
            kind = read_machine(text_of(rows, inside))
            with self.subTest(base=base, size=size):
                self.assertEqual(kind_text(kind), text_of(rows, inside))
                self.assertEqual((kind.base(), kind.size()), (base, len(rows) - 1))
                mixed = [pow(5, at, 2 ** 107 - 1) for at in range(60, 90)]
                for number in [*range(1, 500), *mixed]:
                    self.assertEqual(number in kind, state_of(drawn[0], number) in drawn[1])

    def test_machines_of_kinds(self):
        for base in (2, 3, 10, 16):
            for kind, told in simple_kinds(base):
                lines = kind_text(kind).split("\n")
                self.assertEqual(lines[0], f"base {base}")
                self.assertEqual(len(lines), kind.size() + 2)
                rows = [[None if word == "-" else int(word) for word in line.split(" ") if word != "+"]
                        for line in lines[1:]]
                inside = [at for at, line in enumerate(lines[1:]) if line.endswith(" +")]
                self.assertEqual(least_drawing(rows, inside), (rows, inside))
                for number in range(1, 200):
                    self.assertEqual(state_of(rows, number) in inside, told(number))
                self.assertEqual(rows, plain_machine(Rules(base, ((kind, ("turn",)),))))

    def test_read_again(self):
        kinds = [kind for base in (2, 5, 10, 16) for kind, _ in simple_kinds(base)]
        kinds += [kind & other for kind, other in zip(kinds[3:40], kinds[:37])]
        kinds += [just_200(), ~just_200(), powers_of_ten(), ones((5, 8)), by_length(2, 200), by_length(16, 199, 1),
                  turning_wheels((12, 25)), read_kind(10, "( ( multiple 7 or bears 7 ) xor not ends 3 )")]
        for kind in kinds:
            found = read_machine(kind_text(kind))
            self.assertIs(type(found), Kind)
            self.assertEqual(found, kind)
            self.assertEqual((found.base(), found.size()), (kind.base(), kind.size()))
            self.assertEqual(kind_text(found), kind_text(kind))
            self.assertIsNone(found.unlike(kind))

    def test_what_is_read_is_a_kind_like_others(self):
        kind = read_machine(text="\n".join(THREES))
        self.assertEqual(kind, multiple(10, 3))
        self.assertEqual((kind & multiple(10, 2)), multiple(10, 6))
        self.assertEqual((kind.count(10 ** 40), kind.nth(7), kind.after(21), kind.least()), (10 ** 40 // 3, 21, 24, 3))
        self.assertEqual((kind.is_finite(), kind.unlike(multiple(10, 9))), (False, 3))


class ReadMachine(unittest.TestCase):
    def test_first_rows(self):
        for row in ("", "base", "base 1", "base 17", "base 02", "base 2 ", " base 2", "base  2", "Base 2", "base two",
                    "base\t2", "base 2 +", "- 1"):
            self.no_text([row, *BEARS[1:]], 0)
        self.no_text(["base 3", *BEARS[1:]], 1)
        self.no_text(["base 10", *BEARS[1:]], 1)
        self.no_text([], 0)
        self.no_text([""], 0)
        self.no_text(BEARS[1:], 0)

    def test_the_row_of_the_beginning(self):
        for row in ("", "-", "- ", "-  1", " - 1", "- 1 ", "- 1 +", "- 2", "- 0", "- -", "1 1", "0 1", "+ 1", "- 01",
                    "- 1 1",
                    "- 1 2", "-1", "- +1", "- a", "1 -", "- 1\t", "-\t1", "- 1 -", "- 1.0", "-- 1", "-  ", "+"):
            self.no_text([BEARS[0], row, *BEARS[2:]], 1)
            self.no_text([BEARS[0], row], 1)

    def test_rows_of_states(self):
        for row in ("", "2", "2 ", "2 1 ", " 2 1", "2  1", "2 1 1", "3 1", "1 3", "2 4", "0 1", "2 0", "- 1", "2 -",
                    "02 1", "2 1 -", "2 1+", "2 1  +", "2 1 ++", "2 1 + +", "2 + 1", "+ 2 1", "+", "2 +", "2 1 + ",
                    "2\t1", "a 1",
                    "2 1 0", "201 1", "2 1\t", "2 1 + 1", "2 99999999999999999999999999999"):
            self.no_text([*BEARS[:2], row, BEARS[3]], 2)
            self.no_text([*BEARS[:2], row], 2)
        for row in ("", "2", "4 2 +", "2 4 +", "2 2 + ", "2 2  +", "- 2", "0 2", "2 2 2", "2 2 2 +"):
            self.no_text([*BEARS[:3], row], 3)
            self.no_text([*BEARS[:3], row, "no"], 3)

    def test_a_state_is_one_more_than_the_greatest_ahead_at_most(self):
        self.no_text(["base 3", "- 1 3", "2 1 1", "3 3 3", "1 1 1 +"], 1)
        self.no_text(["base 3", "- 2 1", "2 1 1 +", "3 3 3"], 1)
        self.no_text(["base 3", "- 1 1", "3 2 1 +", "1 1 1"], 2)
        self.no_text(["base 3", "- 1 1", "1 2 4 +", "1 1 1"], 2)
        self.no_text(["base 3", "- 1 2", "1 2 1 +", "1 1 5", "1 1 1"], 3)
        self.assertEqual(read_machine("base 3\n- 1 2\n1 2 1 +\n1 1 3\n1 1 1").size(), 3)

    def test_states_without_a_row(self):
        self.no_text(["base 2"], 1)
        self.no_text(["base 16"], 1)
        self.no_text(["base 2", "- 1"], 2)
        self.no_text(["base 2", "- 1", "2 1"], 3)
        self.no_text(["base 2", "- 1", "2 3", "2 2 +"], 4)
        self.no_text(["base 2", "- 1", "2 1", "3 2 +"], 4)
        self.no_text(THREES[:2], 2)
        self.no_text(THREES[:4], 4)

    def test_rows_of_no_state(self):
        for row in ("1 1", "2 2 +", "", "3 3", "no", "3 4 +"):
            self.no_text([*BEARS, row], 4)
            self.no_text([*BEARS, row, row], 4)
        self.no_text([*THREES, "1 1 1 1 1 1 1 1 1 1"], 5)
        self.no_text([*THREES, ""], 5)
        # The state 2 stands in its own row alone.
        self.no_text(["base 2", "- 1", "1 1 +", "2 2"], 3)

    def test_a_state_that_stands_first_in_a_row_behind(self):
        self.no_text(["base 2", "- 1", "1 1", "1 2 +"], 3)

    def test_machines_that_are_not_the_least(self):
        for lines in (
            ["base 2", "- 1", "2 2 +", "1 2 +"], ["base 2", "- 1", "2 1", "2 1"],
            ["base 2", "- 1", "2 3", "2 3 +", "3 2 +"],
            ["base 10", "- 1 2 3 1 2 3 1 2 4", *[f"{row}{mark}" for row, mark in zip(
                ("1 2 3 1 2 3 1 2 3 1", "2 3 1 2 3 1 2 3 1 2", "3 1 2 3 1 2 3 1 2 3", "3 1 2 3 1 2 3 1 2 3"),
                ("", "", " +", " +"))]],
        ):
            self.no_text(lines, 0)
            # A row that is not as told comes first.
            self.no_text([*lines, "1 1"], len(lines))
        # Eight lengths come again, of which each fourth one is in.
        around = [f"{at % 8 + 1} {at % 8 + 1}" + (" +" if at % 4 == 0 else "") for at in range(1, 9)]
        self.no_text(["base 2", "- 1", *around], 0)

    def test_200_states_and_one_more(self):
        for many in (2, 199, 200):
            lines = self.length_by(many)
            kind = read_machine("\n".join(lines))
            self.assertEqual(kind.size(), many)
            self.assertEqual(kind_text(kind), "\n".join(lines))
        # The state 201 first stands in the row of the state 200.
        self.no_text(self.length_by(201), 201)
        self.no_text(self.length_by(201)[:150], 150)

    def test_no_strings(self):
        for value in (*STRANGE, 2, BEARS, tuple(BEARS), b"base 2"):
            with self.assertRaises(NoText) as caught:
                read_machine(value)
            self.assertEqual(caught.exception.row, 0)

    def test_newlines(self):
        self.no_text([*BEARS, ""], 4)
        self.no_text(["", *BEARS], 0)
        self.no_text([BEARS[0], "", *BEARS[1:]], 1)
        self.no_text([*BEARS[:3], "", BEARS[3]], 3)
        self.no_text([""] * 6000, 0)
        self.no_text(["base 2"] + [""] * 5000, 1)

    def test_near_texts(self):
        """Each word of a right text is replaced by others: what is read is another kind, or a row is told."""
        for base, size, seed in ((2, 5, 3), (3, 4, 1), (4, 6, 2)):
            rows, inside = least_drawing(*some_drawing(base, size, seed))
            lines = text_of(rows, inside).split("\n")
            for at in range(1, len(lines)):
                words = lines[at].split(" ")
                for spot in range(len(words)):
                    for word in [str(state) for state in range(len(rows) + 2)] + ["-", "+", ""]:
                        near = lines[:at] + [" ".join(words[:spot] + [word] + words[spot + 1:])] + lines[at + 1:]
                        self.one_near(base, near)

    def one_near(self, base, lines):
        told = first_wrong_row(base, lines)
        if told is None:
            self.assertEqual(kind_text(read_machine("\n".join(lines))), "\n".join(lines))
        else:
            self.no_text(lines, told)

    def length_by(self, many):
        lines = [f"{at % many + 1} {at % many + 1}" for at in range(1, many + 1)]
        return ["base 2", "- 1", *lines[:-1], lines[-1] + " +"]

    def no_text(self, lines, row):
        with self.subTest(lines=lines[:20]):
            with self.assertRaises(NoText) as caught:
                read_machine("\n".join(lines))
            self.assertEqual(caught.exception.row, row)


def first_wrong_row(base, lines):
    """The row that is told of the text of a machine in this base, read plainly; None if it is right."""
    greatest = 0
    rows, inside = [], []
    for at, line in enumerate(lines[1:], start=1):
        words = line.split(" ")
        state = at - 1
        if state > greatest:
            return at
        if state == 0 and words[0] != "-":
            return at
        if state > 0 and words[-1] == "+":
            inside.append(state)
            words = words[:-1]
        row = [None] if state == 0 else []
        for word in words[1:] if state == 0 else words:
            if not word.isdigit() or not 1 <= int(word) <= greatest + 1 or str(int(word)) != word:
                return at
            greatest = max(greatest, int(word))
            row.append(int(word))
        if len(row) != base:
            return at
        rows.append(row)
    if len(rows) <= greatest:
        return len(lines)
    return None if least_drawing(rows, inside) == (rows, inside) else 0


if __name__ == "__main__":
    unittest.main()
