"""Least machines, held against a plain way to find them (they are behind promises [6], [7], [9] and [10])."""

import unittest

from buzzround.machines import least_machine, side_by_side, state_behind


def mixed(seed):
    """Numbers without much order, always the same for a seed."""
    number = seed * 7919 + 1
    while True:
        number = number * 6364136223846793005 % (2 ** 64) + 1442695040888963407
        yield (number >> 33) % 2 ** 20


def some_machine(seed, size, base, marks):
    source = mixed(seed)
    rows = [[next(source) % size + 1 for _ in range(base)] for _ in range(size)]
    told = [next(source) % marks for _ in range(size)]
    return [[0, *rows[0][1:]], *rows], [None, *told]


def met(steps):
    """The states that numbers come to."""
    found = [0]
    for state in found:
        found.extend([behind for behind in dict.fromkeys(steps[state]) if behind not in found])
    return found


def plain_size(steps, marks):
    """How many lots of the states from 1 on there are, of those that are met, split until no step splits any."""
    states = [state for state in met(steps) if state]
    lots = dict(zip(range(len(marks)), marks))
    while True:
        new = {state: (lots[state], *[lots[behind] for behind in steps[state]]) for state in range(len(marks))}
        numbers = {lot: at for at, lot in enumerate(dict.fromkeys(new.values()))}
        if len(numbers) == len(set(lots.values())):
            return len({lots[state] for state in states})
        lots = {state: numbers[new[state]] for state in new}


class Machines(unittest.TestCase):
    def test_sizes_by_a_plain_way(self):
        for seed in range(400):
            base, marks = 2 + seed % 3, 2 + seed % 2
            steps, told = some_machine(seed, 3 + seed % 40, base, marks)
            made, made_marks = least_machine(steps, told, len(steps))
            with self.subTest(seed=seed):
                self.assertEqual(len(made) - 1, plain_size(steps, told))
                for number in range(1, 200):
                    self.assertEqual(made_marks[state_behind(made, number)], told[state_behind(steps, number)])

    def test_few_lots_of_many_states(self):
        for seed in range(60):
            one, told = some_machine(seed, 4 + seed % 9, 2, 2)
            other, _ = some_machine(seed + 1000, 30, 2, 2)
            steps, pairs = side_by_side(one, other)
            made = least_machine(steps, [told[x] for x, y in pairs], 30)
            with self.subTest(seed=seed):
                self.assertEqual(made, least_machine(one, told, 30))

    def test_the_most_that_is_let(self):
        for seed in range(60):
            steps, told = some_machine(seed, 30, 2, 2)
            size = plain_size(steps, told)
            one, _ = some_machine(seed + 500, 1, 2, 2)
            # Side by side with one state there are only states that are met.
            steps, pairs = side_by_side(steps, one)
            marks = [told[x] for x, y in pairs]
            with self.subTest(seed=seed):
                self.assertEqual(len(least_machine(steps, marks, size)[0]), size + 1)
                self.assertIs(least_machine(steps, marks, size - 1), None)

    def test_states_are_numbered_as_numbers_meet_them(self):
        for seed in range(60):
            steps, told = some_machine(seed, 20, 3, 2)
            made, _ = least_machine(steps, told, 20)
            first = list(dict.fromkeys(state_behind(made, number) for number in range(1, 3 ** 8)))
            self.assertEqual(first, list(range(1, len(made))))


if __name__ == "__main__":
    unittest.main()
