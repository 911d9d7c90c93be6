"""Kinds: sets of numbers that machines tell by their figures."""

from buzzround.checks import (
    GREATEST,
    check_base,
    check_divisor,
    check_figure,
    check_number,
    check_place,
    check_rest,
    is_whole,
)
from buzzround.errors import NoMatch, TooWide
from buzzround.machines import WIDEST, figures, least_machine, least_unlike, side_by_side, state_behind

# What comes out if a number is in none, in one and in both of two kinds.
IN_BOTH = (False, False, True)
IN_SOME = (False, True, True)
IN_ONE = (False, True, False)


def multiple(base, number):
    """The multiples of a number."""
    return rest(base, number, 0)


def rest(base, number, rest):
    """The numbers with a rest by a number."""
    check_base(base)
    check_divisor(number)
    check_rest(rest, number)
    return _by_rest(base, number, rest, base)


def bears(base, figure):
    """The numbers with a figure among theirs."""
    check_base(base)
    check_figure(figure, base)
    return _kind_of([[2 if one == figure else 1 for one in range(base)], [2] * base], [False, True])


def ends(base, figure):
    """The numbers with a figure as their last one."""
    check_base(base)
    check_figure(figure, base)
    row = [2 if one == figure else 1 for one in range(base)]
    return _kind_of([row, row], [False, True])


def figure_sum(base, number, rest):
    """The numbers whose figures have a sum with a rest by a number."""
    check_base(base)
    check_divisor(number)
    check_rest(rest, number)
    return _by_rest(base, number, rest, 1)


def every(base):
    """All numbers."""
    check_base(base)
    return _kind_of([[1] * base], [True])


def _by_rest(base, number, rest, factor):
    """The kind of a rest of what comes of the figures, if each is added to so many times what came before."""
    rows = [[(found * factor + figure) % number + 1 for figure in range(base)] for found in range(number)]
    return _kind_of(rows, [found == rest for found in range(number)])


def _kind_of(rows, marks):
    """The kind of a machine with the rows and marks of its states from 1 on, that begins like the state 1."""
    first = [0, *rows[0][1:]]
    steps, told = least_machine([first, *rows], [None, *marks], len(rows))
    return Kind(steps, told)


def _check_match(one, other):
    if not isinstance(other, Kind) or one.base() != other.base():
        raise NoMatch("two kinds go together only if they have the same base")


def _joined(one, other, told):
    """The kind of the numbers of which it is told so, by how many of two kinds they are in."""
    _check_match(one, other)
    steps, pairs = side_by_side(one.steps, other.steps)
    marks = [told[one.marks[x] + other.marks[y]] for x, y in pairs[1:]]
    found = least_machine(steps, [None, *marks], WIDEST)
    if found is None:
        raise TooWide(f"the kind that comes out has no machine of size {WIDEST} or less")
    return Kind(found[0], found[1])


class Kind:
    """A set of numbers, with a base.

    Its attributes steps and marks are its least machine, in order, as
    buzzround.machines tells. So two kinds are equal if these are.
    """

    def __init__(self, steps, marks):
        self.steps = steps
        self.marks = marks
        # For each number of figures and each state in how many ways so many figures
        # lead from the state into the kind. It grows as far as it is asked for.
        self._ways = [[1 if mark else 0 for mark in marks]]

    def __and__(self, other):
        return _joined(self, other, IN_BOTH)

    def __or__(self, other):
        return _joined(self, other, IN_SOME)

    def __xor__(self, other):
        return _joined(self, other, IN_ONE)

    def __invert__(self):
        return Kind(self.steps, (None, *[not mark for mark in self.marks[1:]]))

    def __eq__(self, other):
        if not isinstance(other, Kind):
            return False
        return self.steps == other.steps and self.marks == other.marks

    def __contains__(self, number):
        if not is_whole(number) or number < 1:
            return False
        return self.marks[state_behind(self.steps, number)]

    def base(self):
        return len(self.steps[0])

    def size(self):
        """The least size of a machine for the kind."""
        return len(self.steps) - 1

    def count(self, number):
        """How many numbers from 1 to this one are in the kind."""
        check_number(number)
        told = figures(number, self.base())
        state = 0
        total = 0
        for at, figure in enumerate(told):
            ways = self._ways_with(len(told) - at - 1)
            total += sum([ways[behind] for behind in self.steps[state][:figure]])
            state = self.steps[state][figure]
        return total + 1 if self.marks[state] else total

    def nth(self, place):
        """The number at this place, None if there is none up to 10 ** 40."""
        check_place(place)
        length = len(figures(GREATEST, self.base()))
        if self._ways_with(length)[0] < place:
            return None
        number = self._at_place(place, length)
        return number if number <= GREATEST else None

    def after(self, number):
        """The least number of the kind that is greater than this one, None if there is none."""
        check_number(number)
        return self._behind(self.count(number), len(figures(number, self.base())))

    def least(self):
        """The least number of the kind, None if it is empty."""
        return self._behind(0, 0)

    def is_finite(self):
        """Whether there are finitely many numbers in the kind."""
        # As many figures as there are states pass some state twice, so what can
        # be done over and over has begun, and only what has is left.
        lasting = [mark is True for mark in self.marks]
        for _ in range(self.size()):
            lasting = [any([lasting[behind] for behind in row]) for row in self.steps]
        return not any(lasting[1:])

    def unlike(self, other):
        """The least number that is in just one of two kinds, None if there is none."""
        _check_match(self, other)
        return least_unlike((self.steps, self.marks), (other.steps, other.marks))

    def _ways_with(self, length):
        """For each state in how many ways so many figures lead from it into the kind.

        From the state 0 these are the ways to numbers of so many figures or fewer.
        """
        while len(self._ways) <= length:
            last = self._ways[-1]
            self._ways.append([sum([last[behind] for behind in row]) for row in self.steps])
        return self._ways[length]

    def _at_place(self, place, length):
        """The number at this place, which has so many figures or fewer."""
        number = 0
        state = 0
        left = place
        for at in range(length):
            ways = self._ways_with(length - at - 1)
            figure = 0
            while ways[self.steps[state][figure]] < left:
                left -= ways[self.steps[state][figure]]
                figure += 1
            number = number * self.base() + figure
            state = self.steps[state][figure]
        return number

    def _behind(self, place, length):
        """The number behind this place, which has so many figures or more, None if there is none."""
        # A number with still more figures passes some state twice behind this length.
        # Without the figures between, it is a lesser number that is long enough.
        for more in range(length, length + self.size() + 1):
            if self._ways_with(more)[0] > place:
                return self._at_place(place + 1, more)
        return None
