"""A desk that reads orders and answers them."""

from buzzround.always import first_when, silent
from buzzround.errors import NoName, NoOrder, NoRoom, NoRow, NothingToUndo
from buzzround.expressions import kind_of
from buzzround.orders import read_order
from buzzround.places import place, said, speaker, swing
from buzzround.rules import MOST_ROWS, Rules
from buzzround.tallies import spoken_by_all

BASE = 10
PEOPLE = 5


def _who(rules, people, parts):
    return f"{speaker(rules, people, parts[0])} {said(rules, parts[0])}"


def _from_to(rules, people, parts):
    told = [f"{number}: {_who(rules, people, [number])}" for number in range(parts[0], parts[2] + 1)]
    return "\n".join(told)


def _place(rules, people, parts):
    return str(place(rules, parts[0]))


def _swing(rules, people, parts):
    return _side_by_side(list(swing(rules, parts[0])))


def _count(rules, people, parts):
    return str(parts[0].count(parts[1]))


def _nth(rules, people, parts):
    return _told_or(parts[0].nth(parts[1]), "none")


def _after(rules, people, parts):
    return _told_or(parts[0].after(parts[1]), "none")


def _tally(rules, people, parts):
    return _side_by_side(spoken_by_all(rules, people, parts[0]))


def _ever(rules, people, parts):
    return _told_or(first_when(rules, people, parts[0], parts[1]), "never")


def _silent(rules, people, parts):
    return _side_by_side(silent(rules, people)) or "none"


def _side_by_side(numbers):
    return " ".join([str(number) for number in numbers])


def _told_or(number, word):
    return word if number is None else str(number)


# What answers an order that changes nothing. In its parts stand kinds, not their names.
ANSWERS = {
    "who": _who,
    "from": _from_to,
    "place": _place,
    "swing": _swing,
    "count": _count,
    "nth": _nth,
    "after": _after,
    "tally": _tally,
    "ever": _ever,
    "silent": _silent,
}


def _with_row(rules, known, row):
    """Rules with a row more at their end, of a tree and an effect."""
    if len(rules.rows()) == MOST_ROWS:
        raise NoRoom(f"there are {MOST_ROWS} rows already")
    tree, effect = row
    return Rules(rules.base(), (*rules.rows(), (kind_of(rules.base(), tree, known), effect)))


def _without_row(rules, index):
    """Rules without the row with an index."""
    rows = list(rules.rows())
    if index >= len(rows):
        raise NoRow(index)
    del rows[index]
    return Rules(rules.base(), tuple(rows))


class Desk:
    """A base with kinds that are known by names, the rows of rules, and a number of people."""

    def __init__(self):
        self._rules = Rules(BASE)
        # This dict is never changed, so that what is kept for undo stays as it is.
        self._known = {}
        self._people = PEOPLE
        # For each order that can be taken back what stood ahead of it.
        self._kept = []

    def order(self, text):
        """Does what an order says, and returns the answer."""
        found = read_order(self._rules.base(), text) if isinstance(text, str) else None
        if found is None:
            raise NoOrder("the text is no order")
        word, parts, names = found
        for name in names:
            if name not in self._known:
                raise NoName(f"no kind is known by the name {name}")
        if word == "undo":
            return self._take_back()
        if word in ANSWERS:
            answer = ANSWERS[word]
            return answer(self._rules, self._people, [self._known[part] if part in names else part for part in parts])
        return self._do(word, parts)

    def _take_back(self):
        if not self._kept:
            raise NothingToUndo("no order is left that could be taken back")
        self._rules, self._known, self._people = self._kept.pop()
        return "undone"

    def _do(self, word, parts):
        """Does what can be taken back, and returns the answer."""
        rules, known, people = self._rules, self._known, self._people
        if word == "base":
            rules, known = Rules(parts[0]), {}
            answer = f"base {parts[0]}"
        elif word == "kind":
            kind = kind_of(rules.base(), parts[1], known)
            known = {**known, parts[0]: kind}
            answer = f"kind {parts[0]} {kind.size()}"
        elif word == "people":
            people = parts[0]
            answer = f"people {people}"
        else:
            rules = _with_row(rules, known, parts) if word == "row" else _without_row(rules, parts[0])
            answer = f"rows {len(rules.rows())}"
        self._kept.append((self._rules, self._known, self._people))
        self._rules, self._known, self._people = rules, known, people
        return answer
