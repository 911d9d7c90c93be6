"""Texts of kinds, of rules and of machines."""

from buzzround.checks import check_base
from buzzround.errors import NoText
from buzzround.expressions import base_of, kind_of, names_in, row_of, tree_of, whole_of
from buzzround.kinds import Kind
from buzzround.machines import WIDEST, least_machine
from buzzround.rules import MOST_ROWS, Rules


def read_kind(base, text):
    """The kind of an expression."""
    check_base(base)
    tree = tree_of(base, text) if isinstance(text, str) else None
    # Names stand in orders alone.
    if tree is None or names_in(tree):
        raise NoText(0)
    return kind_of(base, tree, {})


def read_rules(text):
    """The rules of a text with the row of a base and a row for each of theirs."""
    lines, base = _lines_of(text)
    told = []
    for at in range(1, len(lines)):
        found = row_of(base, lines[at]) if at <= MOST_ROWS else None
        if found is None or names_in(found[0]):
            raise NoText(at)
        told.append(found)
    return Rules(base, tuple([(kind_of(base, tree, {}), effect) for tree, effect in told]))


def kind_text(kind):
    """The text of a kind's least machine: the row of the base, and a row for each state."""
    lines = [f"base {kind.base()}"]
    for state, row in enumerate(kind.steps):
        told = [str(behind) for behind in row]
        if state == 0:
            told[0] = "-"
        elif kind.marks[state]:
            told.append("+")
        lines.append(" ".join(told))
    return "\n".join(lines)


def read_machine(text):
    """The kind of which a text is the text of its least machine."""
    lines, base = _lines_of(text)
    steps, marks = _machine_of(base, lines)
    found = least_machine(steps, marks, WIDEST)
    if len(found[0]) < len(steps):
        raise NoText(0)
    return Kind(found[0], found[1])


def _lines_of(text):
    """The lines of a text, and the base that the first one tells."""
    if not isinstance(text, str):
        raise NoText(0)
    lines = text.split("\n")
    base = base_of(lines[0])
    if base is None:
        raise NoText(0)
    return lines, base


def _machine_of(base, lines):
    """The steps and marks of the machine that the lines behind the first one tell."""
    steps, marks = [], []
    greatest = 0
    for at in range(1, len(lines)):
        found = _state_of(base, lines[at].split(" "), at - 1, greatest)
        if found is None:
            raise NoText(at)
        steps.append(found[0])
        marks.append(found[1])
        greatest = max(greatest, max(found[0]))
    if len(steps) <= greatest:
        raise NoText(len(lines))
    return steps, marks


def _state_of(base, words, state, greatest):
    """The steps and the mark of a state, None if its row is not as told behind the states up to the greatest."""
    if state == 0:
        row = _steps_of(words[1:], base - 1, 0) if words[0] == "-" else None
        return None if row is None else ([0, *row], None)
    if state > greatest:
        return None
    inside = words[-1] == "+"
    row = _steps_of(words[:-1] if inside else words, base, greatest)
    return None if row is None else (row, inside)


def _steps_of(words, many, greatest):
    """So many states, None if the words are not just these: each one is met already, or is the next one to be met."""
    found = []
    met = greatest
    for word in words:
        behind = whole_of(word, 1, min(met + 1, WIDEST))
        if behind is None:
            return None
        found.append(behind)
        met = max(met, behind)
    return found if len(found) == many else None
