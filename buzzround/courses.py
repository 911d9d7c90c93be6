"""What happens over numbers side by side: where the turn goes, and what is counted on the way."""

from buzzround.levels import Levels


class Course:
    """What happens over numbers side by side, told as if the direction ahead of them was onward.

    sign is -1 if the direction behind them is another one, else 1; move tells by how many
    places the turn goes on. low and high are the least and the greatest of their places, if
    the first of them is said at the place 0. replaced tells how many of them are replaced by
    words, changed at how many the direction changes.
    """

    def __init__(self, sign, move, low, high, replaced, changed):
        self.sign = sign
        self.move = move
        self.low = low
        self.high = high
        self.replaced = replaced
        self.changed = changed


class Courses(Levels):
    """What happens over each stretch of numbers."""

    def joined(self, parts):
        return chained(parts)


def course_at(effects):
    """What happens at a number with these effects."""
    skipped = sum([effect[1] for effect in effects if effect[0] == "skip"])
    step = skipped if ("again",) in effects else skipped + 1
    changed = effects.count(("turn",)) & 1
    sign = 1 - 2 * changed
    return Course(sign, sign * step, 0, 0, 1 if words_of(effects) else 0, changed)


def words_of(effects):
    """The words that these effects say."""
    return [effect[1] for effect in effects if effect[0] == "say"]


def said_with(effects, number):
    """What is said for a number with these effects: words, or its decimal digits."""
    found = words_of(effects)
    return " ".join(found) if found else str(number)


def chained(courses):
    """What happens over numbers side by side, of parts of which these courses tell."""
    sign, move, low, high, replaced, changed = 1, 0, 0, 0, 0, 0
    for course in courses:
        if sign == 1:
            low = min(low, move + course.low)
            high = max(high, move + course.high)
        else:
            low = min(low, move - course.high)
            high = max(high, move - course.low)
        move += sign * course.move
        sign *= course.sign
        replaced += course.replaced
        changed += course.changed
    return Course(sign, move, low, high, replaced, changed)
