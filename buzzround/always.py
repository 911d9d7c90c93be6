"""What holds for all numbers up to 10 ** 40, or the first number for which it does not."""

from buzzround.apart import Apart
from buzzround.checks import GREATEST, check_later, check_number, check_people, check_person
from buzzround.errors import NoMatch, TooWide
from buzzround.kinds import Kind
from buzzround.levels import first_behind
from buzzround.machines import WIDEST, least_machine, side_by_side
from buzzround.rings import Listener, Ring
from buzzround.rules import Rules
from buzzround.tallies import turn_of

# The greatest size of a machine that tells of two lots of rules.
WIDEST_OF_TWO = 400


def first_when(rules, people, person, kind):
    """The least number of a kind that a person of so many says, None if there is none."""
    check_people(people)
    check_person(person, people)
    if not isinstance(kind, Kind) or kind.base() != rules.base():
        raise NoMatch("a kind goes together with rules only if they have the same base")
    steps, marks = _machine_of_both(rules, kind, WIDEST)
    courses = [rules.course_of(mark) for mark, _ in marks]
    ring = Ring(steps, courses, [1 if inside else 0 for _, inside in marks], people)
    return first_behind(steps, 0, Listener(ring, [person], 1))


def ever_speaks(rules, people, person):
    """Whether a person of so many says a number at all."""
    return turn_of(rules, people, person, 1) is not None


def silent(rules, people):
    """Those of so many people who never say a number."""
    check_people(people)
    return [person for person in range(people) if not ever_speaks(rules, people, person)]


def told_apart(rules, other):
    """The least number that two lots of rules give unlike places, None if there is none."""
    if not isinstance(other, Rules) or other.base() != rules.base():
        raise NoMatch("two lots of rules go together only if they have the same base")
    steps, marks = _machine_of_both(rules, other, WIDEST_OF_TWO)
    seeker = Apart(steps, [(rules.course_of(one), other.course_of(second)) for one, second in marks])
    # Where they don't go on alike, the places of the next number are unlike.
    found = first_behind(steps, 0, seeker)
    return None if found is None or found == GREATEST else found + 1


def wrong_from(rules, people, number):
    """The least number behind one that somebody else says if somebody errs there, None if there is none."""
    check_people(people)
    check_number(number)
    sign, start = _error_at(rules, number)
    persons = [person for person in range(people) if (start + sign * person - person) % people != 0]
    if not persons:
        return None
    behind = rules.course(number)
    seeker = Listener(rules.ring_of(people), persons, 1, behind.move, behind.sign)
    return first_behind(rules.steps, number, seeker)


def wrong_place(rules, number, later):
    """The place at which the turn stands at a later number, if somebody errs at a number."""
    check_number(number)
    check_number(later)
    check_later(later, number)
    sign, start = _error_at(rules, number)
    return start + sign * rules.course(later - 1).move


def _error_at(rules, number):
    """The tuple (sign, start) by which start + sign * place is the place with an error, of each one behind it."""
    ahead = rules.course(number - 1)
    behind = rules.course(number)
    # Behind the error the turn goes by the same steps, or by the same steps in the opposite directions.
    sign = ahead.sign * behind.sign
    return sign, ahead.move + ahead.sign - sign * behind.move


def _machine_of_both(one, other, most):
    """The least machine that tells by its last state what two machines tell, as tuples."""
    steps, pairs = side_by_side(one.steps, other.steps)
    marks = [(one.marks[x], other.marks[y]) for x, y in pairs]
    found = least_machine(steps, marks, most)
    if found is None:
        raise TooWide(f"no machine of size {most} or less tells both")
    return found
