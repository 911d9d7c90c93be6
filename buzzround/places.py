"""Where the turn stands at a number, and who says it."""

from buzzround.checks import check_number, check_people
from buzzround.courses import said_with


def place(rules, number):
    """The place of the one who says a number."""
    check_number(number)
    return rules.course(number - 1).move


def direction(rules, number):
    """The direction in which the turn goes when a number is said: 1 is onward, -1 back."""
    check_number(number)
    return rules.course(number - 1).sign


def speaker(rules, people, number):
    """Who of so many people says a number, from 0 on."""
    check_people(people)
    check_number(number)
    return rules.course(number - 1).move % people


def said(rules, number):
    """What is said for a number: words, or its decimal digits."""
    check_number(number)
    return said_with(rules.effects_at(number), number)


def swing(rules, number):
    """The least and the greatest of the places of the numbers from 1 to this one."""
    check_number(number)
    course = rules.course(number)
    return (course.low, course.high)
