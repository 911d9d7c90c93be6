"""Machines that are drawn plainly, and the texts of them.

A drawing is a list of rows, one for each state, the beginning first: the states behind each
figure, None for the figure 0 of the beginning; and the list of the states whose numbers are in.
"""

from buzzround.texts import read_machine
from tests.plain import figures


def state_of(rows, number):
    """The state at which a number ends."""
    state = 0
    for figure in reversed(figures(number, len(rows[0]))):
        state = rows[state][figure]
    return state


def lots_told_apart(rows, marks):
    """For each state a number, the same one where states tell the same whatever is read on."""
    lots = list(marks)
    while True:
        told = [(lots[state], *[None if behind is None else lots[behind] for behind in row])
                for state, row in enumerate(rows)]
        names = {}
        for one in told:
            names.setdefault(one, len(names))
        if len(names) == len(set(lots)):
            return lots
        lots = [names[one] for one in told]


def least_drawing(rows, inside):
    """The least drawing that tells the same, its states numbered as the numbers from 1 on meet them."""
    marks = [None if state == 0 else state in inside for state in range(len(rows))]
    lots = lots_told_apart(rows, marks)
    met = [0]
    waiting = [0]
    while waiting:
        state = waiting.pop(0)
        for behind in rows[state]:
            if behind is not None and lots[behind] not in [lots[one] for one in met]:
                met.append(behind)
                waiting.append(behind)
    number = {lots[state]: at for at, state in enumerate(met)}
    found = [[None if behind is None else number[lots[behind]] for behind in rows[state]] for state in met]
    return found, [at for at, state in enumerate(met) if marks[state]]


def text_of(rows, inside):
    """The text of a drawing, as it is."""
    lines = [f"base {len(rows[0])}"]
    for state, row in enumerate(rows):
        told = ["-" if behind is None else str(behind) for behind in row]
        lines.append(" ".join(told + (["+"] if state in inside else [])))
    return "\n".join(lines)


def kind_drawn(rows, inside):
    """The kind of a drawing, read from a text."""
    return read_machine(text_of(*least_drawing(rows, inside)))


def some_drawing(base, size, seed):
    """A drawing of so many states of all sorts, always the same for a seed."""
    mixed = seed * 7919 + 17
    rows = []
    for state in range(size + 1):
        row = []
        for figure in range(base):
            mixed = (mixed * 1103515245 + 12345) % 2 ** 31
            row.append(1 + (mixed >> 8) % size)
        rows.append(row)
    rows[0][0] = None
    return rows, [state for state in range(1, size + 1) if state * (seed + 3) % 7 < 3]


def by_length(base, around, ahead=0):
    """The kind of the numbers with so many figures: ahead + around, ahead + 2 * around and so on.

    Its machine has a state for each length up to ahead + around, of which as many as around come again.
    """
    size = ahead + around
    rows = [[None] + [1] * (base - 1)]
    rows.extend([state + 1 if state < size else ahead + 1] * base for state in range(1, size + 1))
    return read_machine(text_of(rows, [size]))


def turning_wheels(lengths, ahead=0):
    """A kind in whose machine wheels of states turn, each as long as told, one of whose states is in.

    The figure 0 goes on, all others leave the wheel for a state from which nothing is in. So the
    signs of rules that turn at the kind come again after as many levels as all lengths divide.
    ahead tells how many states are passed ahead of the first wheel.
    """
    base = max(2, len(lengths) + 1)
    rows = [[None] + [0] * (base - 1), [1] * base]
    inside = []
    for at, length in enumerate(lengths):
        first = len(rows)
        extra = ahead if at == 0 else 0
        rows[0][at + 1] = first
        for one in range(extra + length):
            behind = first + one + 1 if one + 1 < extra + length else first + extra
            rows.append([behind] + [1] * (base - 1))
        # The last state of a wheel, but none ahead of it: so no two of them tell the same.
        inside.append(first + extra + length - 1)
    return kind_drawn(rows, inside)
