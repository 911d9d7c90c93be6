"""Orders of a desk, read word by word."""

from buzzround.checks import GREATEST, MOST_PEOPLE
from buzzround.expressions import is_name, names_in, row_of, tree_of, whole_of

# What stands behind the first word of an order. Those with an expression are read by themselves.
FORMS = {
    "base": ("base",),
    "drop": ("index",),
    "people": ("people",),
    "who": ("number",),
    "from": ("number", "to", "number"),
    "place": ("number",),
    "swing": ("number",),
    "count": ("name", "number"),
    "nth": ("name", "number"),
    "after": ("name", "number"),
    "tally": ("number",),
    "ever": ("index", "name"),
    "silent": (),
    "undo": (),
}
MOST_TOLD = 40


def read_order(base, text):
    """The tuple (word, parts, names) of an order, None if a text is none.

    parts has what stands behind the word, as names, numbers, trees of expressions and
    effects; names all names that have to be known.
    """
    word, _, behind = text.partition(" ")
    if word == "kind":
        return _kind_order(base, behind)
    if word == "row":
        found = row_of(base, behind)
        return None if found is None else (word, found, names_in(found[0]))
    words = text.split(" ")[1:]
    if word not in FORMS or len(words) != len(FORMS[word]):
        return None
    forms = FORMS[word]
    parts = [_part(form, one) for form, one in zip(forms, words)]
    if any([part is None for part in parts]) or (word == "from" and not _is_short(parts[0], parts[2])):
        return None
    return (word, tuple(parts), [part for form, part in zip(forms, parts) if form == "name"])


def _kind_order(base, text):
    name, _, expression = text.partition(" ")
    tree = tree_of(base, expression)
    return ("kind", (name, tree), names_in(tree)) if is_name(name) and tree is not None else None


def _part(form, word):
    """What a word of an order tells, None if it does not have the form."""
    if form == "name":
        return word if is_name(word) else None
    if form == "base":
        return whole_of(word, 2, 16)
    if form == "people":
        return whole_of(word, 1, MOST_PEOPLE)
    if form == "index":
        return whole_of(word, 0, GREATEST)
    if form == "number":
        return whole_of(word, 1, GREATEST)
    return word if word == form else None


def _is_short(first, last):
    return first <= last < first + MOST_TOLD
