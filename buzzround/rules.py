"""Rules: rows of a kind and an effect."""

from buzzround.checks import check_base, check_number, is_between, is_word
from buzzround.courses import Courses, chained, course_at
from buzzround.errors import NoRow, TooWide
from buzzround.kinds import Kind, every
from buzzround.machines import WIDEST, least_machine, side_by_side, state_behind
from buzzround.rings import Ring

MOST_ROWS = 6


def is_effect(value):
    """Whether a value is an effect."""
    if not isinstance(value, tuple) or len(value) == 0 or not isinstance(value[0], str):
        return False
    if value[0] in ("turn", "again"):
        return len(value) == 1
    if value[0] == "say":
        return len(value) == 2 and is_word(value[1])
    return value[0] == "skip" and len(value) == 2 and is_between(value[1], 1, 9)


def _is_row(base, value):
    if not isinstance(value, tuple) or len(value) != 2 or not isinstance(value[0], Kind):
        return False
    return value[0].base() == base and is_effect(value[1])


def _check_rows(base, rows):
    if not isinstance(rows, tuple):
        raise NoRow(0)
    for at, row in enumerate(rows):
        if at >= MOST_ROWS or not _is_row(base, row):
            raise NoRow(at)


def _machine_of(base, rows):
    """The least machine, in order, that tells by its last state which rows' kinds a number is in."""
    steps = every(base).steps
    marks = (None, ())
    for at, (kind, _) in enumerate(rows):
        wide, pairs = side_by_side(steps, kind.steps)
        told = [(*marks[x], at) if kind.marks[y] else marks[x] for x, y in pairs[1:]]
        # What is too wide for the rows so far is too wide for all of them.
        found = least_machine(wide, [None, *told], WIDEST)
        if found is None:
            raise TooWide(f"the rules have no machine of size {WIDEST} or less")
        steps, marks = found
    return steps, marks


class Rules:
    """Rows of a kind and an effect, with a base.

    Its attributes steps and marks are its least machine, in order, as
    buzzround.machines tells; the mark is the tuple of the indexes of the rows that hold.
    What happens over numbers side by side is kept as far as it was asked for.
    """

    def __init__(self, base, rows=()):
        check_base(base)
        _check_rows(base, rows)
        # Tuples of its own, since nothing that is passed is kept; kinds do not change.
        self._rows = tuple([(kind, tuple([*effect])) for kind, effect in rows])
        self.steps, self.marks = _machine_of(base, rows)
        self._courses = Courses(self.steps, [self.course_of(mark) for mark in self.marks])
        self._ring = None

    def __eq__(self, other):
        if not isinstance(other, Rules):
            return False
        return self.base() == other.base() and self._rows == other.rows()

    def base(self):
        return len(self.steps[0])

    def rows(self):
        return self._rows

    def size(self):
        """The least size of a machine that tells which rows hold."""
        return len(self.steps) - 1

    def holding(self, number):
        """The indexes of the rows whose kinds a number is in."""
        check_number(number)
        return list(self.marks[state_behind(self.steps, number)])

    def effects_at(self, number):
        """The effects of the rows whose kinds a number is in."""
        return [self._rows[at][1] for at in self.marks[state_behind(self.steps, number)]]

    def course_of(self, mark):
        """What happens at a number with a mark, nothing for the mark of the beginning."""
        if mark is None:
            return chained([])
        return course_at([self._rows[at][1] for at in mark])

    def course(self, number):
        """What happens over the numbers from 1 to this one, nothing if it is 0."""
        return self._courses.up_to(number)

    def course_over(self, level, state):
        """What happens over a stretch of numbers, as buzzround.levels tells of it."""
        return self._courses.told(level, state)

    def ring_of(self, many):
        """The ring of so many people who count on by these rules."""
        # Of the rings just the last one is kept: they are great, and mostly one is asked for again and again.
        if self._ring is None or self._ring.many != many:
            courses = [self.course_of(mark) for mark in self.marks]
            self._ring = Ring(self.steps, courses, [0] + [1] * self.size(), many)
        return self._ring
