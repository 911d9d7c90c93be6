"""Whether two lots of rules go on alike, over numbers side by side."""

from buzzround.levels import Levels


class Likeness:
    """How two lots of rules go on over numbers side by side.

    along tells whether at each of them both go on by as much if they go in the same direction
    ahead of them, against whether they do if they go in opposite ones. sign is -1 if just one of
    them goes in another direction behind them, else 1.
    """

    def __init__(self, sign, along, against):
        self.sign = sign
        self.along = along
        self.against = against


class Apart(Levels):
    """How two lots of rules go on over each stretch of numbers, and a seeker of where they don't go on alike.

    It takes for each state the courses of both.
    """

    def __init__(self, steps, courses):
        self.sign = 1
        Levels.__init__(self, steps, [_likeness_of(one, other) for one, other in courses])

    def joined(self, parts):
        sign, along, against = 1, True, True
        for part in parts:
            same, opposite = (part.along, part.against) if sign == 1 else (part.against, part.along)
            along = along and same
            against = against and opposite
            sign *= part.sign
        return Likeness(sign, along, against)

    def finds(self, level, state):
        part = self.told(level, state)
        return not (part.along if self.sign == 1 else part.against)

    def passes(self, level, state):
        self.sign *= self.told(level, state).sign


def _likeness_of(one, other):
    return Likeness(one.sign * other.sign, one.move == other.move, one.move == -other.move)
