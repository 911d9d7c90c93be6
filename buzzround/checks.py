"""Checks of what is passed to the functions of the package."""

from buzzround.errors import (
    NoBase,
    NoCount,
    NoCounts,
    NoDivisor,
    NoFigure,
    NoLater,
    NoLevel,
    NoLevels,
    NoLook,
    NoNumber,
    NoPeople,
    NoPerson,
    NoPlace,
    NoRest,
)

# No argument is a number beyond this one.
GREATEST = 10 ** 40
MOST_PEOPLE = 100
# Guesses ask for more people, and for numbers that can be counted on to.
MOST_GUESSED = 10000
MOST_LEVELS = 140
MOST_AT_ONCE = 200
LETTERS = "abcdefghijklmnopqrstuvwxyz"


def is_whole(value):
    """Whether a value is an integer: True and False are none."""
    return isinstance(value, int) and not isinstance(value, bool)


def is_between(value, low, high):
    """Whether a value is an integer from low to high."""
    return is_whole(value) and low <= value <= high


def is_word(value):
    """Whether a value is a word of 1 to 8 lowercase letters."""
    if not isinstance(value, str) or not 1 <= len(value) <= 8:
        return False
    return all([letter in LETTERS for letter in value])


def check_base(value):
    if not is_between(value, 2, 16):
        raise NoBase("a base is an integer from 2 to 16")


def check_divisor(value):
    if not is_between(value, 2, 12):
        raise NoDivisor("a divisor is an integer from 2 to 12")


def check_rest(value, divisor):
    if not is_between(value, 0, divisor - 1):
        raise NoRest("a rest is an integer from 0 to one less than the divisor")


def check_figure(value, base):
    if not is_between(value, 0, base - 1):
        raise NoFigure("a figure is an integer from 0 to one less than the base")


def check_number(value):
    if not is_between(value, 1, GREATEST):
        raise NoNumber("a number is an integer from 1 to 10 ** 40")


def check_place(value):
    if not is_between(value, 1, GREATEST):
        raise NoPlace("a place is an integer from 1 to 10 ** 40")


def check_times(value):
    if not is_between(value, 1, GREATEST):
        raise NoPlace("times are an integer from 1 to 10 ** 40")


def check_people(value):
    if not is_between(value, 1, MOST_PEOPLE):
        raise NoPeople(f"a number of people is an integer from 1 to {MOST_PEOPLE}")


def check_person(value, people):
    if not is_between(value, 0, people - 1):
        raise NoPerson("a person is an integer from 0 to one less than the number of people")


def check_later(value, number):
    if value <= number:
        raise NoLater("the later number is greater than the other one")


def check_most(value):
    if not is_between(value, 1, MOST_GUESSED):
        raise NoPeople(f"the greatest number of people is an integer from 1 to {MOST_GUESSED}")


def check_look_number(value):
    if not is_between(value, 1, MOST_GUESSED):
        raise NoNumber(f"a number to look at is an integer from 1 to {MOST_GUESSED}")


def check_looks(value):
    if not isinstance(value, list):
        raise NoLook(0)
    for at, look in enumerate(value):
        if not is_look(look):
            raise NoLook(at)


def is_look(value):
    """Whether a value is a tuple of a number and of somebody who says it."""
    if not isinstance(value, tuple) or len(value) != 2:
        return False
    return is_between(value[0], 1, GREATEST) and is_whole(value[1]) and value[1] >= 0


def check_counts(value):
    if not isinstance(value, list) or not 2 <= len(value) <= 10:
        raise NoCounts("counts are a list of two to ten numbers of people")
    if not all([is_between(people, 1, MOST_PEOPLE) for people in value]):
        raise NoCounts(f"each count is an integer from 1 to {MOST_PEOPLE}")
    if len(set(value)) < len(value):
        raise NoCounts("the counts are unlike")


def check_levels(value):
    if not is_between(value, 1, MOST_LEVELS):
        raise NoLevels(f"levels are an integer from 1 to {MOST_LEVELS}")


def check_level(value):
    if not is_whole(value) or value < 0:
        raise NoLevel("a level is an integer from 0 on")


def check_count(value):
    if not is_between(value, 0, MOST_AT_ONCE):
        raise NoCount(f"so many numbers are said at once: an integer from 0 to {MOST_AT_ONCE}")
