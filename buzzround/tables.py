"""Tables that can be checked and used without the rules: plain machines, summaries, papers of signs."""

from buzzround.checks import MOST_LEVELS, check_level, check_levels, check_number, is_between, is_whole
from buzzround.errors import NoState, TooShort, TooWide
from buzzround.machines import figures

# The greatest number of unlike lists in a paper of signs.
MOST_LISTS = 300


def plain_machine(rules):
    """For each state, the beginning first, the list of the states behind each figure."""
    found = [list(row) for row in rules.steps]
    # No number begins with this figure.
    found[0][0] = None
    return found


def plain_marks(rules):
    """For each state, the beginning first, the indexes of the rows that hold of numbers that end there."""
    return [(), *rules.marks[1:]]


def table(rules, levels):
    """For each level the list of the summaries (sign, move) of the states from 1 on."""
    check_levels(levels)
    found = []
    for level in range(levels):
        courses = [rules.course_over(level, state) for state in range(1, rules.size() + 1)]
        found.append([(course.sign, course.move) for course in courses])
    return found


def is_table(rules, thing):
    """Whether a value is the table of rules for some number of levels."""
    if not isinstance(thing, list) or not 1 <= len(thing) <= MOST_LEVELS:
        return False
    # What is equal may still be of another kind.
    if not all([_is_level(level) for level in thing]):
        return False
    return thing == table(rules, len(thing))


def _is_level(value):
    return isinstance(value, list) and all([_is_summary(summary) for summary in value])


def _is_summary(value):
    return isinstance(value, tuple) and len(value) == 2 and all([is_whole(part) for part in value])


def place_by(machine, thing, number):
    """The place of the one who says a number, by a plain machine and a table."""
    check_number(number)
    written = figures(number, len(machine[0]))
    if len(written) > len(thing):
        raise TooShort("the number has more figures than the table has levels")
    spot, direction = 0, 1
    for level, state in _stretches_ahead(machine, written):
        sign, move = thing[level][state - 1]
        spot += direction * move
        direction *= sign
    return spot


def _stretches_ahead(machine, written):
    """The stretches (level, state), in ascending order, of all numbers ahead of the one with these figures."""
    last = len(written) - 1
    found = [(level, state) for level in range(last) for state in machine[0][1:]]
    found.extend([(last, state) for state in machine[0][1:written[0]]])
    state = machine[0][written[0]]
    for at in range(1, len(written)):
        row = machine[state]
        found.extend([(last - at, behind) for behind in row[:written[at]]])
        state = row[written[at]]
    return found


def sign_paper(rules):
    """The tuple (levels, signs, first) of the signs of all levels, which come again from the level first on."""
    turned = [rules.course_of(mark).sign == -1 for mark in rules.marks]
    signs = []
    met = {}
    while tuple(turned[1:]) not in met:
        if len(signs) == MOST_LISTS:
            raise TooWide(f"there are more than {MOST_LISTS} unlike lists of signs")
        met[tuple(turned[1:])] = len(signs)
        signs.append([-1 if one else 1 for one in turned[1:]])
        turned = [len([behind for behind in row if turned[behind]]) % 2 == 1 for row in rules.steps]
    return (len(signs), signs, met[tuple(turned[1:])])


def is_sign_paper(rules, thing):
    """Whether a value is the paper of signs of rules."""
    paper = sign_paper(rules)
    return _is_paper(thing) and thing == paper


def _is_paper(value):
    if not isinstance(value, tuple) or len(value) != 3:
        return False
    levels, signs, first = value
    if not is_whole(levels) or not is_whole(first) or not isinstance(signs, list):
        return False
    return all([isinstance(row, list) and all([is_whole(sign) for sign in row]) for row in signs])


def sign_at(thing, state, level):
    """The sign of a state at any level, by a paper of signs."""
    levels, signs, first = thing
    if not is_between(state, 1, len(signs[0])):
        raise NoState("a state is an integer from 1 to the number of states of the paper")
    check_level(level)
    at = level if level < levels else first + (level - first) % (levels - first)
    return signs[at][state - 1]
