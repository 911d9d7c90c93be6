"""Texts of kinds, effects and numbers, read word by word.

The tree of an expression is a tuple of its first word or of the word that joins its
parts, and of its numbers, its name or the trees of its parts: ("rest", 7, 2),
("not", ("name", "odd")), ("and", ("every",), ("ends", 3)).
"""

from buzzround.checks import is_between, is_word
from buzzround.kinds import bears, ends, every, figure_sum, multiple, rest

DIGITS = "0123456789"
# No number that is read is longer.
MOST_DIGITS = 60
DEEPEST = 8
JOINING = ("and", "or", "xor")
# These words are no names of kinds.
TAKEN = ("multiple", "rest", "bears", "ends", "sum", "every", "not", "and", "or", "xor")


def is_name(value):
    """Whether a value is a word that could be the name of a kind."""
    return is_word(value) and value not in TAKEN


def whole_of(text, low, high):
    """The integer from low to high that is written in decimal digits without leading zeros, None if none is."""
    if not 1 <= len(text) <= MOST_DIGITS or not all([sign in DIGITS for sign in text]):
        return None
    if text[0] == "0" and len(text) > 1:
        return None
    found = int(text)
    return found if is_between(found, low, high) else None


def base_of(row):
    """The base of a row that tells one, None if it does not."""
    words = row.split(" ")
    if len(words) != 2 or words[0] != "base":
        return None
    return whole_of(words[1], 2, 16)


def effect_of(text):
    """The effect that a text tells, None if it tells none."""
    words = text.split(" ")
    if words == ["turn"] or words == ["again"]:
        return (words[0],)
    if len(words) != 2:
        return None
    if words[0] == "say" and is_word(words[1]):
        return ("say", words[1])
    many = whole_of(words[1], 1, 9)
    return ("skip", many) if words[0] == "skip" and many is not None else None


def row_of(base, text):
    """The tuple (tree, effect) of a row of rules, None if a text is none."""
    parts = text.split(" : ")
    if len(parts) != 2:
        return None
    tree = tree_of(base, parts[0])
    effect = effect_of(parts[1])
    return None if tree is None or effect is None else (tree, effect)


def tree_of(base, text):
    """The tree of an expression, in which also names stand, None if a text is none."""
    words = text.split(" ")
    found = _tree_at(base, words, 0, DEEPEST)
    return found[0] if found is not None and found[1] == len(words) else None


def _tree_at(base, words, at, depth):
    """The tree, not deeper than told, that begins at an index of the words, and the index behind it; or None."""
    if depth == 0 or at >= len(words):
        return None
    if words[at] == "not":
        part = _tree_at(base, words, at + 1, depth - 1)
        return None if part is None else (("not", part[0]), part[1])
    if words[at] == "(":
        return _pair_at(base, words, at, depth)
    if words[at] in TAKEN:
        return _test_at(base, words, at)
    return (("name", words[at]), at + 1) if is_name(words[at]) else None


def _pair_at(base, words, at, depth):
    """The tree of two parts in parentheses, and the index behind it; or None."""
    one = _tree_at(base, words, at + 1, depth - 1)
    if one is None or one[1] >= len(words) or words[one[1]] not in JOINING:
        return None
    other = _tree_at(base, words, one[1] + 1, depth - 1)
    if other is None or other[1] >= len(words) or words[other[1]] != ")":
        return None
    return ((words[one[1]], one[0], other[0]), other[1] + 1)


def _test_at(base, words, at):
    """The tree of a test of a number, and the index behind it; or None."""
    word = words[at]
    if word == "every":
        return ((word,), at + 1)
    if word in ("bears", "ends"):
        figure = _whole_at(words, at + 1, 0, base - 1)
        return None if figure is None else ((word, figure), at + 2)
    divisor = _whole_at(words, at + 1, 2, 12)
    if divisor is None or word not in ("multiple", "rest", "sum"):
        return None
    if word == "multiple":
        return ((word, divisor), at + 2)
    left = _whole_at(words, at + 2, 0, divisor - 1)
    return None if left is None else ((word, divisor, left), at + 3)


def _whole_at(words, at, low, high):
    return whole_of(words[at], low, high) if at < len(words) else None


def names_in(tree):
    """The names that stand in a tree."""
    if tree[0] == "name":
        return [tree[1]]
    found = []
    if tree[0] == "not" or tree[0] in JOINING:
        for part in tree[1:]:
            found.extend(names_in(part))
    return found


def kind_of(base, tree, known):
    """The kind that a tree tells of, with the kinds that are known by names."""
    if tree[0] == "name":
        return known[tree[1]]
    if tree[0] == "not":
        return ~kind_of(base, tree[1], known)
    if tree[0] not in JOINING:
        return _kind_of_test(base, tree[0], tree[1:])
    one = kind_of(base, tree[1], known)
    other = kind_of(base, tree[2], known)
    if tree[0] == "and":
        return one & other
    return one | other if tree[0] == "or" else one ^ other


def _kind_of_test(base, word, numbers):
    if word == "every":
        return every(base)
    if word == "bears":
        return bears(base, numbers[0])
    if word == "ends":
        return ends(base, numbers[0])
    if word == "multiple":
        return multiple(base, numbers[0])
    return rest(base, *numbers) if word == "rest" else figure_sum(base, *numbers)
