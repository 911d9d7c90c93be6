"""How often something happens from 1 to a number, and when somebody speaks for a given time."""

from buzzround.checks import check_number, check_people, check_person, check_times
from buzzround.levels import first_behind
from buzzround.rings import Listener


def spoken(rules, people, person, number):
    """How many of the numbers from 1 to this one a person of so many says."""
    check_people(people)
    check_person(person, people)
    check_number(number)
    ring = rules.ring_of(people)
    return ring.times(ring.up_to(number), person)


def spoken_by_all(rules, people, number):
    """How many of the numbers from 1 to this one each of so many people says."""
    check_people(people)
    check_number(number)
    ring = rules.ring_of(people)
    lap = ring.up_to(number)
    return [ring.times(lap, person) for person in range(people)]


def words(rules, number):
    """How many of the numbers from 1 to this one are replaced by words."""
    check_number(number)
    return rules.course(number).replaced


def turns(rules, number):
    """At how many of the numbers from 1 to this one the direction changes."""
    check_number(number)
    return rules.course(number).changed


def turn_of(rules, people, person, times):
    """The number at which a person speaks for the so manieth time, None if it is not up to 10 ** 40."""
    check_people(people)
    check_person(person, people)
    check_times(times)
    return first_behind(rules.steps, 0, Listener(rules.ring_of(people), [person], times))
