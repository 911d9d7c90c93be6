"""Rounds that are counted on plainly, number by number, and the lots of rules that several tests share."""

from math import lcm

from buzzround.errors import TooWide
from buzzround.kinds import bears, ends, every, figure_sum, multiple, rest
from buzzround.rules import Rules
from tests.plain import figures, only, simple_kinds

PEOPLE = (1, 2, 3, 7, 64, 99, 100)
TURN, AGAIN = ("turn",), ("again",)
EFFECTS = (
    TURN, ("say", "buzz"), ("skip", 2), AGAIN, ("skip", 9), ("say", "fizz"), TURN, ("skip", 1), ("say", "a"),
    ("skip", 4),
)


class Lot:
    """Rules, and for each row a function that tells plainly whether it holds, and its effect."""

    def __init__(self, base, rows):
        self.base = base
        self.rules = Rules(base, tuple((kind, effect) for kind, told, effect in rows))
        self.rows = [(told, effect) for kind, told, effect in rows]

    def effects(self, number):
        return [effect for told, effect in self.rows if told(number)]


def step_and_sign(effects):
    """What the effects at a number do to the turn, read word by word."""
    sign = 1
    for effect in effects:
        if effect == TURN:
            sign = -sign
    step = 0 if AGAIN in effects else 1
    for effect in effects:
        if effect[0] == "skip":
            step += effect[1]
    return step, sign


def counted_on(lot, last, error=None):
    """The tuples (place, direction, what is said, whether the direction changes) of 1 to the last number."""
    found = []
    place, direction = 0, 1
    for number in range(1, last + 1):
        effects = [] if number == error else lot.effects(number)
        words = [effect[1] for effect in effects if effect[0] == "say"]
        step, sign = step_and_sign(effects)
        found.append((place, direction, " ".join(words) or str(number), sign == -1))
        direction *= sign
        place += direction * step
    return found


def written(base, told):
    return lambda number: told(figures(number, base))


def told_lots():
    """Lots of rules with what should be looked at: each effect, several at once, the turn that stands."""
    always = lambda number: True
    sevens = lambda number: number % 7 == 0 or 7 in figures(number, 10)
    nines = lambda number: sum(figures(number, 10)) % 9 == 1
    yield Lot(10, [])
    yield Lot(2, [])
    yield Lot(10, [(every(10), always, TURN)])
    yield Lot(16, [(every(16), always, AGAIN)])
    yield Lot(3, [(every(3), always, TURN), (every(3), always, TURN)])
    yield Lot(7, [(every(7), always, ("skip", 9))] * 6)
    yield Lot(10, [(multiple(10, 7) | bears(10, 7), sevens, ("say", "buzz")),
                   (bears(10, 7), written(10, lambda told: 7 in told), TURN)])
    yield Lot(10, [
        (multiple(10, 3), lambda number: number % 3 == 0, ("say", "fizz")),
        (multiple(10, 5), lambda number: number % 5 == 0, ("say", "buzz")),
        (bears(10, 7), written(10, lambda told: 7 in told), TURN),
        (ends(10, 0), lambda number: number % 10 == 0, ("skip", 2)),
        (figure_sum(10, 9, 1), nines, AGAIN),
        (multiple(10, 2), lambda number: number % 2 == 0, TURN),
    ])
    yield Lot(2, [
        (multiple(2, 3), lambda number: number % 3 == 0, TURN),
        (figure_sum(2, 5, 2), written(2, lambda told: sum(told) % 5 == 2), ("skip", 4)),
        (figure_sum(2, 2, 1), written(2, lambda told: sum(told) % 2 == 1), TURN),
        (multiple(2, 4), lambda number: number % 4 == 0, AGAIN),
        (~bears(2, 0), written(2, lambda told: 0 not in told), ("say", "ones")),
        (multiple(2, 3), lambda number: number % 3 == 0, ("say", "three")),
    ])
    yield Lot(16, [
        (ends(16, 15), lambda number: number % 16 == 15, ("skip", 9)),
        (ends(16, 15), lambda number: number % 16 == 15, ("skip", 9)),
        (ends(16, 15), lambda number: number % 16 == 15, AGAIN),
        (bears(16, 10), written(16, lambda told: 10 in told), TURN),
        (rest(16, 5, 3), lambda number: number % 5 == 3, ("say", "e")),
        (~multiple(16, 3), lambda number: number % 3 > 0, ("skip", 1)),
    ])


def mixed_lots():
    """Lots of rules of many sorts, always the same."""
    for seed in range(60):
        base = (2, 3, 4, 5, 8, 9, 10, 11, 12, 16)[seed % 10]
        kinds = simple_kinds(base)
        rows = []
        for at in range(1 + seed % 6):
            kind, told = kinds[(seed * 37 + at * 101 + seed * at * 13) % len(kinds)]
            rows.append((kind, told, EFFECTS[(seed * 3 + at * 7 + seed // 10) % len(EFFECTS)]))
        try:
            yield Lot(base, rows)
        except TooWide:
            pass


LOTS = [*told_lots(), *mixed_lots()]


def rests_alone():
    """Lots of rules of rests alone, each with its period."""
    for base, rows in (
        (10, ((2, 0, TURN),)),
        (10, ((3, 1, TURN), (4, 0, ("skip", 2)), (5, 2, ("say", "five")))),
        (2, ((7, 3, TURN), (7, 0, ("say", "buzz")), (5, 0, AGAIN), (3, 2, ("skip", 9)))),
        (16, ((9, 8, TURN), (9, 2, TURN), (8, 5, ("skip", 7)), (2, 0, AGAIN))),
        (3, ((11, 1, TURN), (11, 7, TURN), (11, 3, TURN), (4, 3, ("skip", 3)))),
        (12, ((8, 1, TURN), (6, 1, TURN), (12, 7, AGAIN), (9, 0, ("skip", 5)), (4, 2, ("say", "b")),
              (2, 0, ("say", "a")))),
        (7, ((12, 0, ("skip", 8)), (12, 6, ("skip", 1)), (5, 1, AGAIN))),
    ):
        made = [(rest(base, by, left), lambda number, by=by, left=left: number % by == left, effect)
                for by, left, effect in rows]
        yield Lot(base, made), lcm(*[by for by, left, effect in rows])


def repeated(base, figure, rests):
    """The numbers that are written by a figure alone, so often that their sums have these rests."""
    found = only(base, (figure,))
    for by, left in rests:
        found = found & figure_sum(base, by, left)
    return found


def nines(length):
    """Of the numbers below 10 ** 77 the one that is written by so many nines."""
    return repeated(10, 9, ((11, 9 * length % 11), (7, 9 * length % 7)))


def steps_only_in(kind, effects=()):
    """Rules by which the turn stands but for the numbers of a kind."""
    return Rules(kind.base(), ((~kind, AGAIN), *[(kind, effect) for effect in effects]))
