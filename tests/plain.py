"""A plain reading of the figures, and values that the tests of several files share."""

from buzzround.kinds import bears, ends, every, figure_sum, multiple, rest

GREATEST = 10 ** 40
# What is no integer, whatever it looks like.
STRANGE = (True, False, None, "", "3", [], [3], (), (3,), 3.0, b"3", {}, {3: 3}, object())


def figures(number, base):
    """The figures of a number, from the last one on."""
    found = []
    while number:
        found.append(number % base)
        number //= base
    return found


def wrong_integers(low, high):
    """What is no integer from low to high."""
    return (low - 1, high + 1, -high - 1, high + 10 ** 59, *STRANGE)


def simple_kinds(base):
    """Tuples of a kind and of a function that tells whether a number is in it."""
    found = [(every(base), lambda number: True)]
    for by in range(2, 13):
        found.append((multiple(base, by), lambda number, by=by: number % by == 0))
        for left in {0, 1, by // 2, by - 1}:
            found.append((rest(base, by, left), lambda number, by=by, left=left: number % by == left))
            found.append((
                figure_sum(base, by, left),
                lambda number, by=by, left=left: sum(figures(number, base)) % by == left,
            ))
    for figure in range(base):
        found.append((bears(base, figure), lambda number, figure=figure: figure in figures(number, base)))
        found.append((ends(base, figure), lambda number, figure=figure: number % base == figure))
    return found


def least_size(base, told):
    """How many numbers there are that some figures written behind them tell apart.

    Some short and some long ones are tried, always the same.
    """
    mixed = [pow(7, 50 + at, 2 ** 89 - 1) for at in range(150)]
    ones = [(base ** length - 1) // (base - 1) for length in range(1, 15)]
    heads = [*range(1, 3 * base), *ones, *[number % base ** 14 + 1 for number in mixed]]
    tails = [(base ** length, tail) for length in range(7) if base ** length < 101 for tail in range(base ** length)]
    tails += [(base ** 14, one) for one in ones]
    tails += [(base ** (2 + number % 12), number % base ** (2 + number % 12)) for number in mixed[:30]]
    return len({tuple([told(head * place + tail) for place, tail in tails]) for head in heads})


def all_of(kinds):
    """The kind of the numbers that are in all of some kinds."""
    found = kinds[0]
    for kind in kinds[1:]:
        found = found & kind
    return found


def only(base, allowed):
    """The kind of the numbers that have no other figures than these."""
    return all_of([every(base)] + [~bears(base, figure) for figure in range(base) if figure not in allowed])


def powers_of_ten():
    """Of the numbers up to 10 ** 131 the powers of ten."""
    return only(10, (0, 1)) & figure_sum(10, 12, 1) & figure_sum(10, 11, 1)


def just_200():
    """A kind of just 200 states: the rest by 40 and the rest of the sum by 5."""
    return multiple(3, 5) & figure_sum(3, 5, 0) & multiple(3, 8)


def ones(lengths):
    """The numbers that are written in the base 2 by ones alone, as many as all of these divide."""
    return all_of([~bears(2, 0)] + [figure_sum(2, by, 0) for by in lengths])


def check_refusals(case, function, valid, refused):
    """Each wrong value of each argument is refused, and of several wrong arguments the first one is told.

    valid has values for all arguments, refused the error and the wrong values of those that are
    checked, in the order in which they are.
    """
    names = list(refused)
    for at, name in enumerate(names):
        error, values = refused[name]
        for value in values:
            with case.subTest(function=function.__name__, name=name, value=value):
                case.assertRaises(error, function, **{**valid, name: value})
                for later in names[at + 1:]:
                    for wrong in refused[later][1][::3]:
                        case.assertRaises(error, function, **{**valid, name: value, later: wrong})
                wrong = {later: refused[later][1][0] for later in names[at + 1:]}
                case.assertRaises(error, function, **{**valid, name: value, **wrong})
