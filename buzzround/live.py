"""A live round: numbers are said one by one or gone over, and each call can be taken back."""

from buzzround.checks import GREATEST, check_count, check_later, check_number, check_people, is_between
from buzzround.courses import course_at, said_with
from buzzround.errors import NoNumber, NothingToUndo


class Round:
    """A round of so many people, who go on from the number 1."""

    def __init__(self, rules, people):
        check_people(people)
        self._rules = rules
        self._people = people
        self._number = 1
        self._place = 0
        self._direction = 1
        # Tuples (number, person, what was said), and how often each person said one.
        self._heard = []
        self._times = [0] * people
        # For each call that stands what undo needs to take it back.
        self._calls = []

    @property
    def number(self):
        return self._number

    @property
    def person(self):
        return self._place % self._people

    @property
    def place(self):
        return self._place

    @property
    def direction(self):
        return self._direction

    @property
    def people(self):
        return self._people

    @property
    def rules(self):
        return self._rules

    def __len__(self):
        return len(self._calls)

    def __contains__(self, person):
        return is_between(person, 0, self._people - 1) and self._times[person] > 0

    def say(self):
        """Says the next number: the tuple (person, what is said)."""
        self._check_more(1)
        self._keep()
        return self._say_next()

    def say_many(self, count):
        """Says so many numbers: the list of their tuples (person, what is said)."""
        check_count(count)
        self._check_more(count)
        self._keep()
        return [self._say_next() for _ in range(count)]

    def go_to(self, number):
        """Goes on to a number without saying those between."""
        check_number(number)
        check_later(number, self._number - 1)
        self._keep()
        ahead = self._rules.course(self._number - 1)
        behind = self._rules.course(number - 1)
        # The rules told alone how the turn would go from 1 on, but errors and other
        # rules may have led to another place and direction.
        self._place += self._direction * ahead.sign * (behind.move - ahead.move)
        self._direction *= ahead.sign * behind.sign
        self._number = number

    def err(self):
        """Says the next number as if no row held there: the tuple (person, the number in digits)."""
        self._check_more(1)
        self._keep()
        return self._say_with([])

    def change(self, rules):
        """Goes on by other rules."""
        self._keep()
        self._rules = rules

    def undo(self):
        """Takes back the last call that stands."""
        if not self._calls:
            raise NothingToUndo("no call is left that could be taken back")
        self._rules, self._number, self._place, self._direction, many = self._calls.pop()
        for said in self._heard[many:]:
            self._times[said[1]] -= 1
        del self._heard[many:]

    def heard(self):
        """The tuples (number, person, what was said) of all numbers that were said."""
        return list(self._heard)

    def _check_more(self, count):
        # There is always room for none.
        if self._number + count - 1 > GREATEST:
            raise NoNumber("no number beyond 10 ** 40 is said")

    def _keep(self):
        self._calls.append((self._rules, self._number, self._place, self._direction, len(self._heard)))

    def _say_next(self):
        return self._say_with(self._rules.effects_at(self._number))

    def _say_with(self, effects):
        """Says the next number with these effects."""
        person = self._place % self._people
        told = said_with(effects, self._number)
        self._heard.append((self._number, person, told))
        self._times[person] += 1
        course = course_at(effects)
        self._place += self._direction * course.move
        self._direction *= course.sign
        self._number += 1
        return (person, told)
