"""How often each of the people in a ring speaks, over numbers side by side."""

from buzzround.checks import GREATEST
from buzzround.levels import Levels


class Lap:
    """Who speaks over numbers side by side, told as if the first of them was said at the place 0, onward.

    sign is -1 if the direction behind them is another one, else 1; move is the rest of the
    place behind them. counts tells how often each person speaks, backs the same if
    the direction ahead of them is back: one great integer each, with so many bits for each
    person as its ring has width, so that all people are added at once.
    """

    def __init__(self, sign, move, counts, backs):
        self.sign = sign
        self.move = move
        self.counts = counts
        self.backs = backs


class Ring(Levels):
    """Who speaks over each stretch of numbers, in a ring of so many people.

    What happens at a number is told by the course of the state at which it ends. Only the numbers
    of some states are counted: those that have 1, not 0, in counted.
    """

    def __init__(self, steps, courses, counted, many):
        self.many = many
        # Nobody speaks more often than there are numbers.
        self.width = GREATEST.bit_length()
        # All bits of one person, and of all people together.
        self.bits_of_one = (1 << self.width) - 1
        self.bits_of_all = (1 << many * self.width) - 1
        laps = [Lap(course.sign, course.move % many, one, one) for course, one in zip(courses, counted)]
        Levels.__init__(self, steps, laps)

    def joined(self, parts):
        sign, move, counts, backs = 1, 0, 0, 0
        for lap in parts:
            ahead, opposite = (lap.counts, lap.backs) if sign == 1 else (lap.backs, lap.counts)
            counts += self._moved(ahead, move)
            backs += self._moved(opposite, self.many - move)
            move = (move + sign * lap.move) % self.many
            sign *= lap.sign
        return Lap(sign, move, counts, backs)

    def times(self, lap, person):
        """How often a person speaks over a lap that begins at the place 0, onward."""
        return (lap.counts >> person * self.width) & self.bits_of_one

    def _moved(self, counts, places):
        """The counts of people who sit by so many places further on."""
        moved = counts << places * self.width
        return (moved & self.bits_of_all) + (moved >> self.many * self.width)


class Listener:
    """A seeker of the number at which some of the people in a ring have spoken so many times, all together.

    The next number is said at the place spot, and sign is the direction.
    """

    def __init__(self, ring, persons, times, spot=0, sign=1):
        self.ring = ring
        self.persons = persons
        self.left = times
        self.spot = spot
        self.sign = sign

    def finds(self, level, state):
        return self._times_in(self.ring.told(level, state)) >= self.left

    def passes(self, level, state):
        lap = self.ring.told(level, state)
        self.left -= self._times_in(lap)
        self.spot += self.sign * lap.move
        self.sign *= lap.sign

    def _times_in(self, lap):
        seats = [self.sign * (person - self.spot) % self.ring.many for person in self.persons]
        return sum([self.ring.times(lap, seat) for seat in seats])
