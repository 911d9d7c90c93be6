"""Texts of kinds and of rules."""

import unittest

from buzzround.errors import NoBase, NoText, TooWide
from buzzround.kinds import bears, ends, every, figure_sum, multiple, rest
from buzzround.rules import Rules
from buzzround.texts import read_kind, read_rules
from tests.plain import STRANGE, wrong_integers
from tests.rounds import LOTS
from tests.written import Mixed, deep, some_expression, tests_of, without

WORDS = "multiple rest bears ends sum every not and or xor".split()
EFFECTS = (
    ("say buzz", ("say", "buzz")), ("say a", ("say", "a")), ("say abcdefgh", ("say", "abcdefgh")), ("turn", ("turn",)),
    ("skip 1", ("skip", 1)), ("skip 9", ("skip", 9)), ("again", ("again",)), ("say turn", ("say", "turn")),
    ("say skip", ("say", "skip")), ("say every", ("say", "every")),
)
# Effects that are none.
NO_EFFECTS = (
    "", " ", "say", "say ", "say Buzz", "say abcdefghi", "say a b", "say a1", "say 1", "turn ", " turn", "turn turn",
    "Turn", "turns", "skip", "skip 0", "skip 10", "skip 01", "skip -1", "skip +1", "skip a", "skip 1 1", "skip  1",
    "again 1", "again\t", "say\tbuzz", "say a:b", ": turn", "turn : turn", "every", "skip 1.0", "say a_b",
)
# Texts that are no expressions in the base 10.
NO_EXPRESSIONS = (
    "", " ", "\n", "\t", "()", "( )", "(", ")", "multiple", "multiple ", "multiple 1", "multiple 13", "multiple 0",
    "multiple 07", "multiple +7", "multiple -7", "multiple 7.0", "multiple 7 ", " multiple 7", "multiple  7",
    "multiple\t7", "multiple 7\n", "\nmultiple 7", "Multiple 7", "MULTIPLE 7", "multiples 7", "multiple seven",
    "multiple 7 7", "multiple 1e1", "multiple 0x7", "multiple 1_0", "rest", "rest 7", "rest 7 7", "rest 7 -1",
    "rest 7 00", "rest 07 0", "rest 1 0", "rest 13 0", "rest 0 0", "rest 7 1 1", "rest 7  1", "sum", "sum 7",
    "sum 7 7", "sum 1 0", "sum 13 1", "sum 7 01", "sum 7 1 2", "bears", "bears 10", "bears 01", "bears a", "bears -1",
    "bears 3 3", "ends", "ends 10", "ends 00", "ends A", "every 1", "Every", "every every", "not", "not ", "not not",
    "not  every", "not every every", "notevery", "and", "or", "xor", "every and every", "( every )",
    "( every and every", "every and every )", "( every and every ))", "(every and every)", "( every and every)",
    "(every and every )", "( every  and every )", "( every and  every )", "( every nor every )",
    "( every And every )", "( and every )", "( every and )", "( every every )", "( every and every and every )",
    "( every and every or every )", "( not every )", "not ( every )", "( every and every ) )",
    "( ( every and every )", "( every and not )", "( every , every )", "every\n", "ever", "everyy", "odd", "a",
    "name", "( a and every )", "not a", "( every and b )", "every : turn", "multiple 7 : say buzz", "base 10",
    "every and", "not every and every", "multiple 99999999999999999999999999999999",
    "rest 7 99999999999999999999999999999999", "bears 99999999999999999999999999999999", "[ every and every ]", "0",
    "7", "multiple 7 or", "and 7 1", "or 7 1", "xor 2 0", "and every every", "not 7 1", "every 7 1", "rest 7 every",
    "bears every", "( multiple 7 or bears 7", "multiple ( every and every )", "sum 2 ( every or every )", "+", "-",
)


def agrees(case, base, one):
    """Whether an expression that is written is read as it tells plainly."""
    kind = read_kind(base, one.text)
    case.assertEqual(kind.base(), base)
    mixed = [pow(5, at, 2 ** 107 - 1) for at in range(60, 75)]
    for number in [*range(1, 120), *mixed]:
        case.assertEqual(number in kind, one.told(number), (one.text, number))


class ReadKind(unittest.TestCase):
    def test_of_the_depth_1(self):
        for base in range(2, 17):
            for one in tests_of(base):
                agrees(self, base, one)

    def test_as_functions_make_them(self):
        for base in (2, 7, 10, 16):
            for text, kind in (
                ("multiple 12", multiple(base, 12)), ("rest 12 11", rest(base, 12, 11)), ("rest 2 0", rest(base, 2, 0)),
                ("bears 0", bears(base, 0)), (f"bears {base - 1}", bears(base, base - 1)), ("ends 1", ends(base, 1)),
                ("sum 12 7", figure_sum(base, 12, 7)), ("every", every(base)), ("not every", ~every(base)),
                ("( multiple 3 and bears 1 )", multiple(base, 3) & bears(base, 1)),
                ("( multiple 3 or bears 1 )", multiple(base, 3) | bears(base, 1)),
                ("( multiple 3 xor bears 1 )", multiple(base, 3) ^ bears(base, 1)),
                ("not ( not ends 0 or multiple 5 )", ends(base, 0) & ~multiple(base, 5)),
            ):
                self.assertEqual(read_kind(base, text), kind)

    def test_of_all_sorts(self):
        many, wide = 0, 0
        for seed in range(150):
            mixed = Mixed(seed)
            base = 2 + mixed.below(15)
            one = some_expression(base, mixed, 1 + seed % 5, small=seed % 2 == 0)
            try:
                agrees(self, base, one)
                many += 1
            except TooWide:
                wide += 1
        self.assertGreater(many, 100)

    def test_depths(self):
        for base in (2, 10, 16):
            for at in range(8):
                for depth in range(1, 9):
                    one = deep(base, depth, at)
                    self.assertEqual(one.depth, depth)
                    agrees(self, base, one)
                for depth in (9, 10, 20):
                    self.no_text(base, deep(base, depth, at).text if depth < 20 else "not " * 19 + "every")
        self.assertEqual(read_kind(10, "not " * 7 + "multiple 7"), ~multiple(10, 7))
        self.no_text(10, "not " * 8 + "multiple 7")
        # Just one of the parts is too deep.
        one, wrong = deep(10, 7).text, deep(10, 8).text
        read_kind(10, f"( {one} and {one} )")
        for text in (f"( {one} and {wrong} )", f"( {wrong} and {one} )", f"( every or {wrong} )", f"not {wrong}"):
            self.no_text(10, text)

    def test_no_expressions(self):
        for text in NO_EXPRESSIONS:
            self.no_text(10, text)
            self.no_text(10, f"( {text} and every )" if text != "" else "(  and every )")

    def test_figures_are_those_of_the_base(self):
        for base in range(2, 17):
            for word in ("bears", "ends"):
                read_kind(base, f"{word} {base - 1}")
                self.no_text(base, f"{word} {base}")
                self.no_text(base, f"( every and not {word} {base} )")

    def test_words_of_tests_alone(self):
        for word in WORDS:
            if word != "every":
                self.no_text(10, word)
            self.no_text(10, f"{word} {word}")

    def test_long_texts(self):
        for text in (
            "not " * 1499 + "a", "( " * 3000, "( every and " * 500, "( " * 400 + "every" + " and every )" * 400,
            "a" * 6000, " " * 6000, "not " * 1490 + "every", "every " * 1000, "multiple 7" + " )" * 2990, "\n" * 6000,
            "multiple " * 660, "( ( ( ( ( ( ( ( every and every ) and every ) and every ) and every ) " * 80,
        ):
            self.no_text(10, text)

    def test_bases(self):
        for base in wrong_integers(2, 16):
            self.assertRaises(NoBase, read_kind, base, "every")
            self.assertRaises(NoBase, read_kind, base, None)
            self.assertRaises(NoBase, read_kind, base, "no")

    def test_no_strings(self):
        for value in STRANGE:
            if not isinstance(value, str):
                self.no_text(10, value)

    def test_too_wide(self):
        wide = "( sum 12 1 and ( multiple 11 and sum 5 0 ) )"
        for base in (7, 10):
            self.assertRaises(TooWide, read_kind, base, wide)
            for text in (f"not {wide}", f"( {wide} and not every )", f"( not every and {wide} )",
                         f"( {wide} xor {wide} )",
                         f"( every or ( every and {wide} ) )"):
                self.assertRaises(TooWide, read_kind, base, text)
            # A text that is no expression is told first.
            for text in (f"( {wide} and odd )", f"( {wide} and not bears {base} )", f"{wide} ",
                         f"( not multiple 13 or {wide} )"):
                self.no_text(base, text)

    def test_by_names_of_the_arguments(self):
        self.assertEqual(read_kind(text="multiple 7", base=10), multiple(10, 7))

    def no_text(self, base, value):
        with self.subTest(base=base, value=value):
            with self.assertRaises(NoText) as caught:
                read_kind(base, value)
            self.assertEqual(caught.exception.row, 0)


class ReadRules(unittest.TestCase):
    def test_of_all_sorts(self):
        many = 0
        for seed in range(60):
            mixed = Mixed(seed + 1000)
            base = 2 + mixed.below(15)
            rows, effects = [], []
            for at in range(seed % 7):
                rows.append(some_expression(base, mixed, 1 + mixed.below(3), small=True))
                effects.append(mixed.one_of(EFFECTS))
            text = "\n".join([f"base {base}"] + [f"{one.text} : {told[0]}" for one, told in zip(rows, effects)])
            try:
                rules = read_rules(text)
            except TooWide:
                continue
            many += 1
            self.assertEqual(rules.base(), base)
            self.assertEqual([row[1] for row in rules.rows()], [told[1] for told in effects])
            self.assertEqual([row[0] for row in rules.rows()], [read_kind(base, one.text) for one in rows])
            self.assertEqual(rules, Rules(base, tuple((read_kind(base, one.text), told[1])
                                                      for one, told in zip(rows, effects))))
            for number in [*range(1, 60), 10 ** 30 + seed]:
                self.assertEqual(rules.holding(number), [at for at, one in enumerate(rows) if one.told(number)])
        self.assertGreater(many, 40)

    def test_by_hand(self):
        text = "base 10\n( multiple 7 or bears 7 ) : say buzz\nbears 7 : turn\nends 0 : skip 2\nevery : again"
        self.assertEqual(read_rules(text), Rules(10, (
            (multiple(10, 7) | bears(10, 7), ("say", "buzz")), (bears(10, 7), ("turn",)), (ends(10, 0), ("skip", 2)),
            (every(10), ("again",)),
        )))
        self.assertEqual(read_rules(text="base 2"), Rules(2))
        for base in range(2, 17):
            self.assertEqual(read_rules(f"base {base}"), Rules(base))

    def test_effects(self):
        for text, effect in EFFECTS:
            self.assertEqual(read_rules(f"base 10\nevery : {text}").rows(), ((every(10), effect),))
        for number in range(1, 10):
            self.assertEqual(read_rules(f"base 10\nevery : skip {number}").rows()[0][1], ("skip", number))
        for text in NO_EFFECTS:
            self.no_text(f"base 10\nevery : {text}", 1)
            self.no_text(f"base 10\nevery : turn\nevery : {text}\nevery : turn", 2)

    def test_kinds(self):
        for text in NO_EXPRESSIONS:
            if "\n" not in text:
                self.no_text(f"base 10\nevery : turn\n{text} : turn\nno", 2)
        for at in range(8):
            self.assertEqual(len(read_rules(f"base 10\n{deep(10, 8, at).text} : turn").rows()), 1)
            self.no_text(f"base 10\n{deep(10, 9, at).text} : turn", 1)
            self.no_text(f"base 10\n{without(deep(10, 8, at)).text} : turn", 1)

    def test_first_rows(self):
        for row in ("", "base", "base ", "base 1", "base 17", "base 0", "base 010", "base 10 ", " base 10", "base  10",
                    "Base 10", "BASE 10", "base\t10", "base ten", "base +10", "base -10", "base 10 10", "10",
                    "bases 10",
                    "base 1 0", "base 10.0", "base 99999999999999999999999999", "base 10 : turn", "every : turn"):
            self.no_text(row, 0)
            self.no_text(f"{row}\nevery : turn", 0)
            self.no_text(f"{row}\nno", 0)

    def test_rows(self):
        for row in ("", " ", "every", "every :", "every : ", ": turn", " : turn", "every: turn", "every :turn",
                    "every:turn", "every  : turn", "every :  turn", " every : turn", "every : turn ", "every ; turn",
                    "base 10",
                    "every : turn\t", "every\t: turn", "every : every : turn", "turn : every", "every : turn : "):
            for ahead in range(6):
                text = "\n".join(["base 10"] + ["every : turn"] * ahead + [row])
                self.no_text(text, ahead + 1)
                self.no_text(text + "\nevery : turn", ahead + 1)
                self.no_text(text + "\n", ahead + 1)

    def test_newlines(self):
        self.no_text("base 10\n", 1)
        self.no_text("base 10\nevery : turn\n", 2)
        self.no_text("base 10\n\nevery : turn", 1)
        self.no_text("\nbase 10\nevery : turn", 0)
        self.no_text("\n", 0)
        self.no_text("\n" * 6000, 0)
        self.no_text("base 10" + "\n" * 5000, 1)

    def test_a_seventh_row(self):
        text = "base 10" + "\nevery : turn" * 6
        self.assertEqual(len(read_rules(text).rows()), 6)
        for row in ("every : turn", "no", "", "every : turn\nno"):
            self.no_text(f"{text}\n{row}", 7)
        self.no_text("base 10" + "\nevery : turn" * 5 + "\nno\nevery : turn", 6)
        self.no_text("base 10" + "\nevery : turn" * 400, 7)

    def test_no_strings(self):
        for value in (*STRANGE, 10, ["base 10"], ("base 10",), b"base 10"):
            self.no_text(value, 0)

    def test_too_wide(self):
        wide = "( sum 12 1 and ( multiple 11 and sum 5 0 ) )"
        for text in (f"{wide} : turn", f"every : turn\n( not every and {wide} ) : turn",
                     "sum 12 1 : turn\nmultiple 11 : turn\nsum 5 0 : turn"):
            self.assertRaises(TooWide, read_rules, f"base 10\n{text}")
            self.no_text(f"base 10\n{text}\nno", 2 + text.count("\n"))

    def test_the_first_row_that_is_wrong(self):
        for wrong in range(1, 7):
            rows = ["every : turn" if at < wrong else "no" for at in range(1, 9)]
            self.no_text("\n".join(["base 10"] + rows), wrong)
            self.no_text("\n".join(["base 1"] + rows), 0)

    def test_figures_are_those_of_the_base(self):
        for base in range(2, 17):
            self.assertEqual(read_rules(f"base {base}\nbears {base - 1} : turn").base(), base)
            self.no_text(f"base {base}\nevery : turn\nends {base} : turn", 2)

    def test_the_shared_lots_may_be_asked_the_same(self):
        rules = read_rules("base 10\n( multiple 7 or bears 7 ) : say buzz\nbears 7 : turn")
        self.assertEqual(rules, LOTS[6].rules)

    def no_text(self, value, row):
        with self.subTest(value=value):
            with self.assertRaises(NoText) as caught:
                read_rules(value)
            self.assertEqual(caught.exception.row, row)


if __name__ == "__main__":
    unittest.main()
