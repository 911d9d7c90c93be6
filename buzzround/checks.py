"""Checks of what is passed to the functions of the package."""

from buzzround.errors import NoBase, NoDivisor, NoFigure, NoNumber, NoPlace, NoRest

# No argument is a number beyond this one.
GREATEST = 10 ** 40
LETTERS = "abcdefghijklmnopqrstuvwxyz"


def is_whole(value):
    """Whether a value is an integer: True and False are none."""
    return isinstance(value, int) and not isinstance(value, bool)


def is_between(value, low, high):
    """Whether a value is an integer from low to high."""
    return is_whole(value) and low <= value <= high


def is_word(value):
    """Whether a value is a word of 1 to 8 lowercase letters."""
    if not isinstance(value, str) or not 1 <= len(value) <= 8:
        return False
    return all([letter in LETTERS for letter in value])


def check_base(value):
    if not is_between(value, 2, 16):
        raise NoBase("a base is an integer from 2 to 16")


def check_divisor(value):
    if not is_between(value, 2, 12):
        raise NoDivisor("a divisor is an integer from 2 to 12")


def check_rest(value, divisor):
    if not is_between(value, 0, divisor - 1):
        raise NoRest("a rest is an integer from 0 to one less than the divisor")


def check_figure(value, base):
    if not is_between(value, 0, base - 1):
        raise NoFigure("a figure is an integer from 0 to one less than the base")


def check_number(value):
    if not is_between(value, 1, GREATEST):
        raise NoNumber("a number is an integer from 1 to 10 ** 40")


def check_place(value):
    if not is_between(value, 1, GREATEST):
        raise NoPlace("a place is an integer from 1 to 10 ** 40")
