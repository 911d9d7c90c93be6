"""Numbers side by side, stretch by stretch.

A stretch is written as a tuple (level, state): all numbers that are written by a number
that ends at the state and so many figures behind it as the level tells. For the state 0,
the beginning, these are all numbers of so many figures or fewer, of the level 0 none.
"""

from buzzround.checks import GREATEST
from buzzround.machines import figures, state_behind


class Levels:
    """Something that is told of each stretch of numbers.

    A class below says by its method joined how it comes of what is told of the stretches
    that stand in it side by side.
    """

    def __init__(self, steps, first):
        self.steps = steps
        # For each level and each state what is told. It grows as far as it is asked for.
        self._levels = [first]

    def told(self, level, state):
        """What is told of a stretch."""
        while len(self._levels) <= level:
            last = self._levels[-1]
            self._levels.append([self.joined([last[behind] for behind in row]) for row in self.steps])
        return self._levels[level][state]

    def up_to(self, number):
        """What is told of the numbers from 1 to this one, of none if it is 0."""
        return self.joined([self.told(level, state) for level, state in stretches_up_to(self.steps, number)])

    def joined(self, parts):
        """What is told of stretches side by side, of each of which a part is told."""
        raise NotImplementedError("a class below joins the parts")


def stretches_up_to(steps, number):
    """The stretches that the numbers from 1 to this one consist of, in ascending order."""
    written = figures(number, len(steps[0]))
    found = []
    state = 0
    for at, figure in enumerate(written):
        found.extend([(len(written) - at - 1, behind) for behind in steps[state][:figure]])
        state = steps[state][figure]
    found.append((0, state))
    return found


def first_behind(steps, number, seeker):
    """The least number greater than this one that a seeker finds, None if there is none up to 10 ** 40.

    A seeker goes over the numbers in ascending order: finds(level, state) tells whether
    there is something in the stretch that is next, passes(level, state) goes over it.
    """
    base = len(steps[0])
    head = number
    # First come the numbers that are unlike in the last figure alone, so that what is
    # near is found before anything is told of long stretches.
    for level in range(len(figures(GREATEST, base))):
        head, figure = divmod(head, base)
        row = steps[state_behind(steps, head)]
        for more in range(figure + 1, base):
            if seeker.finds(level, row[more]):
                found = _first_within(steps, head * base + more, (level, row[more]), seeker)
                return found if found <= GREATEST else None
            seeker.passes(level, row[more])
    return None


def _first_within(steps, head, stretch, seeker):
    """The first number that a seeker finds in a stretch, whose numbers begin with the figures of a head."""
    level, state = stretch
    number = head
    for below in range(level - 1, -1, -1):
        row = steps[state]
        figure = 0
        while not seeker.finds(below, row[figure]):
            seeker.passes(below, row[figure])
            figure += 1
        number = number * len(row) + figure
        state = row[figure]
    return number
