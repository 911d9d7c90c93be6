"""Expressions of all sorts, written with what they tell plainly."""

from tests.plain import figures


class Written:
    """An expression: its text, its depth, and whether it tells of a number."""

    def __init__(self, text, depth, told):
        self.text = text
        self.depth = depth
        self.told = told


def tests_of(base):
    """The expressions of the depth 1, with all numbers that are let."""
    found = [Written("every", 1, lambda number: True)]
    for by in range(2, 13):
        found.append(Written(f"multiple {by}", 1, lambda number, by=by: number % by == 0))
        for left in range(by):
            found.append(Written(f"rest {by} {left}", 1, lambda number, by=by, left=left: number % by == left))
            found.append(Written(
                f"sum {by} {left}", 1, lambda number, by=by, left=left: sum(figures(number, base)) % by == left,
            ))
    for figure in range(base):
        found.append(Written(f"bears {figure}", 1, lambda number, figure=figure: figure in figures(number, base)))
        found.append(Written(f"ends {figure}", 1, lambda number, figure=figure: number % base == figure))
    return found


def without(one):
    return Written(f"not {one.text}", one.depth + 1, lambda number: not one.told(number))


def joined(word, one, other):
    told = {
        "and": lambda number: one.told(number) and other.told(number),
        "or": lambda number: one.told(number) or other.told(number),
        "xor": lambda number: one.told(number) != other.told(number),
    }[word]
    return Written(f"( {one.text} {word} {other.text} )", 1 + max(one.depth, other.depth), told)


class Mixed:
    """Numbers that look mixed, always the same for a seed."""

    def __init__(self, seed):
        self.state = seed * 7919 + 17

    def below(self, many):
        self.state = (self.state * 1103515245 + 12345) % 2 ** 31
        return (self.state >> 8) % many

    def one_of(self, things):
        return things[self.below(len(things))]


def some_expression(base, mixed, depth, small=False):
    """An expression that is not deeper than this. If small, its tests need few states."""
    if depth == 1 or mixed.below(5) == 0:
        tests = tests_of(base)
        if small:
            tests = [one for one in tests if one.text.split(" ")[0] in ("every", "bears", "ends")
                     or one.text in ("multiple 2", "rest 2 1", "sum 2 0", "sum 2 1")]
        return mixed.one_of(tests)
    if mixed.below(4) == 0:
        return without(some_expression(base, mixed, depth - 1, small))
    return joined(mixed.one_of(("and", "or", "xor")), some_expression(base, mixed, depth - 1, small),
                  some_expression(base, mixed, depth - 1, small))


def deep(base, depth, at=0):
    """An expression of just this depth: one side of each join is one less deep, or a not stands there."""
    if depth == 1:
        return tests_of(base)[at % 7]
    inner = deep(base, depth - 1, at + 1)
    leaf = tests_of(base)[0]
    return (without(inner), joined("and", inner, leaf), joined("xor", leaf, inner), joined("or", inner, inner))[at % 4]
