"""Machines that read the figures of a number and tell by their last state what it is.

A machine is written as steps and marks. steps[state][figure] is the state behind
a figure, marks[state] what is told of the numbers that end at a state. The state 0
is the beginning, with the mark None; its figure 0 leads to itself, so that zeros
ahead of a number change nothing. No other step leads to the state 0.
A machine is in order if its states are numbered as the numbers from 1 on meet them.
"""

# The greatest size of the machine of a kind, and of rules.
WIDEST = 200


def figures(number, base):
    """The figures of a number, from the first one on."""
    found = []
    while number > 0:
        number, figure = divmod(number, base)
        found.append(figure)
    return found[::-1]


def state_behind(steps, number):
    """The state at which a number ends."""
    state = 0
    for figure in figures(number, len(steps[0])):
        state = steps[state][figure]
    return state


def side_by_side(first, second):
    """The steps of two machines that read together, and the pairs of states that are met."""
    width = len(second)
    numbers = {0: 0}
    codes = [0]
    steps = []
    while len(steps) < len(codes):
        one, other = divmod(codes[len(steps)], width)
        row = [x * width + y for x, y in zip(first[one], second[other])]
        for code in row:
            if code not in numbers:
                numbers[code] = len(codes)
                codes.append(code)
        steps.append([numbers[code] for code in row])
    return steps, [divmod(code, width) for code in codes]


def least_unlike(first, second):
    """The least number of which just one of two machines tells True, None if there is none."""
    first_steps, first_marks = first
    second_steps, second_marks = second
    base = len(first_steps[0])
    seen = {(0, 0): True}
    # Numbers wait in ascending order, each the least that comes to its pair of states.
    waiting = [(0, 0, 0)]
    at = 0
    while at < len(waiting):
        number, one, other = waiting[at]
        at += 1
        for figure in range(base):
            pair = (first_steps[one][figure], second_steps[other][figure])
            if pair not in seen:
                if first_marks[pair[0]] != second_marks[pair[1]]:
                    return number * base + figure
                seen[pair] = True
                waiting.append((number * base + figure, *pair))
    return None


def least_machine(steps, marks, most):
    """The steps and marks, in order, of the least machine that tells the same, None if its size is above most.

    If some states are never met, the machine that is given must not be larger than most.
    """
    lots = lots_of_states(steps, marks, most + 1)
    if lots is None:
        return None
    return in_order(steps, marks, lots)


def in_order(steps, marks, lots):
    """The machine, in order, whose states are the lots of states of another one."""
    numbers = {lots[0]: 0}
    met = [0]
    at = 0
    while at < len(met):
        row = steps[met[at]]
        at += 1
        for state in row:
            if lots[state] not in numbers:
                numbers[lots[state]] = len(met)
                met.append(state)
    rows = [tuple([numbers[lots[state]] for state in steps[one]]) for one in met]
    return tuple(rows), tuple([marks[one] for one in met])


def lots_of_states(steps, marks, most):
    """The lot of each state, where the states of a lot tell the same, whatever is read on.

    None if there are more lots than most. This is Hopcroft's way: a lot is split by the
    steps into another one, and of two halves only the smaller one has to be looked at again.
    So it ends soon even if many states are split off one by one.
    """
    lots = list(lots_by_marks(marks))
    members = list(members_of(lots))
    backs = [steps_back(steps, figure) for figure in range(len(steps[0]))]
    waiting = list(all_but_a_widest(members))
    while waiting:
        targets = members[waiting.pop()]
        for back in backs:
            if len(members) > most:
                return None
            hit = hit_by_lot(targets, back, lots)
            for lot in hit:
                if len(hit[lot]) < len(members[lot]):
                    for state in hit[lot]:
                        lots[state] = len(members)
                    members[lot] = [state for state in members[lot] if lots[state] == lot]
                    if lot not in waiting and len(members[lot]) < len(hit[lot]):
                        waiting.append(lot)
                    else:
                        waiting.append(len(members))
                    members.append(hit[lot])
    return lots if len(members) <= most else None


def lots_by_marks(marks):
    """The lot of each state if all states of a mark are one lot."""
    numbers = {}
    lots = []
    for mark in marks:
        lots.append(numbers.setdefault(mark, len(numbers)))
    return lots


def members_of(lots):
    """The list of its states for each lot."""
    members = [[] for _ in range(max(lots) + 1)]
    for state, lot in enumerate(lots):
        members[lot].append(state)
    return members


def all_but_a_widest(members):
    """All lots but one of those with the most states."""
    ascending = sorted([(len(members[lot]), lot) for lot in range(len(members))])
    return [lot for _, lot in ascending[:-1]]


def steps_back(steps, figure):
    """For each state the states from which a figure leads to it."""
    back = [[] for _ in steps]
    for state, row in enumerate(steps):
        back[row[figure]].append(state)
    return back


def hit_by_lot(targets, back, lots):
    """The states from which a step leads to one of the targets, by their lots."""
    hit = {}
    for target in targets:
        for state in back[target]:
            hit.setdefault(lots[state], []).append(state)
    return hit
