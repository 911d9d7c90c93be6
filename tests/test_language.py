"""Some of the rules for the files of the package that can be seen at a glance."""

import ast
import pathlib
import unittest

import buzzround

FOLDER = pathlib.Path(buzzround.__file__).parent
FILES = sorted(FOLDER.glob("*.py"))


class Language(unittest.TestCase):
    def test_the_folder_contains_files_of_code_alone(self):
        found = {path.name for path in FOLDER.iterdir()} - {"__pycache__"}
        self.assertEqual(found, {path.name for path in FILES})
        self.assertIn("__init__.py", found)

    def test_sizes_and_signs(self):
        for path in FILES:
            with self.subTest(path.name):
                text = path.read_text(encoding="utf-8")
                self.assertTrue(all(sign == "\n" or " " <= sign <= "~" for sign in text))
                lines = text.split("\n")
                self.assertLess(len(lines), 400)
                self.assertLessEqual(max(len(line) for line in lines), 120)

    def test_functions_have_forty_lines_at_most(self):
        for path, node in self.nodes(ast.FunctionDef):
            with self.subTest(path.name, name=node.name):
                self.assertLessEqual(node.end_lineno - node.lineno + 1, 40)

    def test_imports_are_from_the_package(self):
        self.assertEqual(list(self.nodes(ast.Import)), [])
        for path, node in self.nodes(ast.ImportFrom):
            with self.subTest(path.name, module=node.module):
                self.assertEqual(node.level, 0)
                self.assertIn(node.module.split(".")[0], ("buzzround", "heapq", "math", "itertools", "collections"))

    def test_numbers_are_integers(self):
        self.assertEqual([path.name for path, node in self.nodes(ast.Div)], [])
        for path, node in self.nodes(ast.Constant):
            self.assertNotIsInstance(node.value, (float, complex), path.name)

    def test_no_character_of_formats_in_strings(self):
        for path, node in self.nodes(ast.Constant):
            if isinstance(node.value, str):
                self.assertNotIn("%", node.value, path.name)

    def nodes(self, sort):
        for tree in trees(FILES):
            for node in ast.walk(tree):
                if isinstance(node, sort):
                    yield tree.path, node


class Operators(unittest.TestCase):
    """What operators, __eq__, __len__ and properties run changes nothing and calls nothing that an object may hold."""

    def test_the_package(self):
        found = list(trees(FILES))
        self.assertEqual(calls_of_what_is_held(found), [])
        names = {node.name for node in run_by_operators(found)}
        for name in ("__and__", "__or__", "__xor__", "__eq__", "__contains__", "__len__", "person", "lots_of_states"):
            self.assertIn(name, names)

    def test_a_call_by_the_name_of_an_attribute_is_found(self):
        told = (
            "def far(rows):\n    return rows.index(3)\n"
            "class Box:\n    def __init__(self, at):\n        self.index, self.seen = at, {}\n"
            "    def near(self):\n        return far(self.seen)\n"
        )
        for name, calls in (
            ("__and__", ["far: index"]), ("__contains__", ["far: index"]), ("__eq__", ["far: index"]), ("near_by", []),
        ):
            text = told + f"    def {name}(self, other):\n        return other.near()\n"
            self.assertEqual(calls_of_what_is_held([ast.parse(text)]), calls, name)
        text = told + "    @property\n    def wide(self):\n        return Box(self.seen.keys()).near()\n"
        self.assertEqual(calls_of_what_is_held([ast.parse(text)]), ["far: index"])

    def test_names_of_properties_mean_nothing_else_of_an_object(self):
        found = list(trees(FILES))
        classes = [node for tree in found for node in ast.walk(tree) if isinstance(node, ast.ClassDef)]
        methods = [node for own in classes for node in own.body if isinstance(node, ast.FunctionDef)]
        properties = {node.name for node in methods if node.decorator_list}
        self.assertEqual(properties, {"number", "person", "place", "direction", "people", "rules"})
        self.assertEqual(properties & {node.name for node in methods if not node.decorator_list}, set())
        self.assertEqual(properties & names_of_attributes(found), set())

    def test_the_package_changes_only_what_is_made_on_the_spot(self):
        self.assertEqual(changes_by_operators(list(trees(FILES))), [])

    def test_a_change_of_what_was_not_made_on_the_spot_is_found(self):
        for line, found in (
            ("waiting = made(rows); waiting.pop()", ["far: waiting"]),
            ("waiting = made(rows); waiting[0] = 1", ["far: waiting"]),
            ("waiting = made(rows); waiting[0] += 1", ["far: waiting"]),
            ("waiting = list(made(rows)); waiting.pop(); waiting[0] = 1", []),
            ("waiting = []; waiting = rows; waiting.append(1)", ["far: waiting"]),
            ("waiting = [1]; waiting = waiting[1:]; waiting.append(1)", []),
            ("rows.append(1)", ["far: rows"]),
            ("rows.wide = 1", ["far: rows"]),
            ("del rows[0]", ["far: rows"]),
            ("for waiting in rows: waiting.append(1)", ["far: waiting"]),
            ("(waiting, more) = ([], []); more.append(1)", ["far: more"]),
            ("hit = {}; hit.setdefault(1, []).append(2); hit[3] = 4", []),
            ("rows.setdefault(1, []).append(2)", ["far: rows"]),
            ("lots = [[] for row in rows]; lots[0].append(1)", []),
            ("lots = list(rows); lots[0].append(1)", ["far: lots"]),
            ("lots = [row for row in rows]; lots[0][1] = 2", ["far: lots"]),
            ("rows.kept[1].append(2)", ["far: rows"]),
            ("Box(rows).kept.append(2)", ["far: ?"]),
        ):
            with self.subTest(line):
                text = f"def far(rows):\n    {line}\nclass Box:\n    def __len__(self):\n        return far(self)\n"
                self.assertEqual(changes_by_operators([ast.parse(text)]), found)
                self.assertEqual(changes_by_operators([ast.parse(text.replace("__len__", "near"))]), [])


def trees(paths):
    for path in paths:
        tree = ast.parse(path.read_text(encoding="utf-8"))
        tree.path = path
        yield tree


def functions_by_name(found):
    """The functions and methods of each name; a class stands for what makes its objects."""
    named = {}
    for tree in found:
        for node in ast.walk(tree):
            if isinstance(node, ast.FunctionDef):
                named.setdefault(node.name, []).append(node)
            if isinstance(node, ast.ClassDef):
                made = [one for one in node.body if isinstance(one, ast.FunctionDef) and one.name == "__init__"]
                named.setdefault(node.name, []).extend(made)
    return named


def names_of_attributes(found):
    """The names under which objects hold something."""
    return {
        node.attr for tree in found for node in ast.walk(tree)
        if isinstance(node, ast.Attribute) and isinstance(node.ctx, ast.Store)
    }


def calls_in(node):
    """What is called in a function: tuples of a name and of whether it is the name of a method."""
    for one in ast.walk(node):
        if isinstance(one, ast.Call) and isinstance(one.func, ast.Name):
            yield one.func.id, False
        if isinstance(one, ast.Call) and isinstance(one.func, ast.Attribute):
            yield one.func.attr, True


def run_by_operators(found):
    """All functions that operators, __eq__, __len__ and properties may run, the first ones of these themselves."""
    named = functions_by_name(found)
    nodes = [node for name in sorted(named) for node in named[name]]
    waiting = [node for node in nodes if is_run_first(node)]
    for node in waiting:
        for name in sorted({called for called, _ in calls_in(node)}):
            waiting.extend([behind for behind in named.get(name, []) if behind not in waiting])
    return waiting


def is_run_first(function):
    return (function.name[:2] == "__" and function.name != "__init__") or bool(function.decorator_list)


def calls_of_what_is_held(found):
    held = names_of_attributes(found)
    return [
        f"{node.name}: {called}" for node in run_by_operators(found)
        for called, is_method in calls_in(node) if is_method and called in held
    ]


# What changes the list, dict or set whose method it is.
CHANGING = (
    "append", "appendleft", "clear", "extend", "extendleft", "insert", "pop", "popleft", "remove", "reverse", "rotate",
    "setdefault", "sort", "update", "add", "discard",
)
MADE_BY_CALL = ("list", "dict", "set", "sorted")


def changes_by_operators(found):
    """What operators, __eq__, __len__ and properties change although they did not make it on the spot."""
    return [f"{node.name}: {root}" for node in run_by_operators(found) for root in changes_in(node)]


def changes_in(function):
    """The names of what a function changes, of those alone that it did not make itself."""
    values = assigned_in(function)
    for node in ast.walk(function):
        for target in changed_by(node):
            if isinstance(target, ast.Attribute) and function.name == "__init__" and name_of(target.value) == "self":
                continue
            held = target.value
            if may_be_changed(held, values):
                continue
            while not isinstance(held, ast.Name) and hasattr(held, "value"):
                held = held.value
            yield name_of(held)


def changed_by(node):
    """The items, attributes and methods by which a node changes something."""
    if isinstance(node, (ast.Subscript, ast.Attribute)) and isinstance(node.ctx, (ast.Store, ast.Del)):
        yield node
    if isinstance(node, ast.Call) and isinstance(node.func, ast.Attribute) and node.func.attr in CHANGING:
        if isinstance(node.func.value, ast.Call):
            # What setdefault(.., []) returns stands in what it was called of.
            inner = node.func.value
            if isinstance(inner.func, ast.Attribute) and inner.func.attr == "setdefault":
                return
        yield node.func


def may_be_changed(held, values):
    if isinstance(held, ast.Subscript):
        made = values.get(name_of(held.value), [])
        return bool(made) and all(holds_only_what_is_made(value) for value in made)
    made = values.get(name_of(held), [])
    return bool(made) and all(is_made(value) for value in made)


def assigned_in(function):
    """For each local variable what it is assigned, None where that is not told by a plain line."""
    values = {one.arg: [None] for one in ast.walk(function) if isinstance(one, ast.arg)}
    for node in ast.walk(function):
        if isinstance(node, ast.Name) and isinstance(node.ctx, ast.Store):
            values.setdefault(node.id, []).append(None)
    for node in ast.walk(function):
        if isinstance(node, ast.Assign):
            for target in node.targets:
                if isinstance(target, ast.Name):
                    values[target.id].remove(None)
                    values[target.id].append(node.value)
    return values


def is_made(value):
    """Whether a value is a list, dict or set that is made where it stands."""
    if isinstance(value, (ast.List, ast.Dict, ast.Set, ast.ListComp, ast.DictComp, ast.SetComp)):
        return True
    if isinstance(value, ast.Call) and isinstance(value.func, ast.Attribute):
        return value.func.attr == "copy"
    if isinstance(value, ast.BinOp) and isinstance(value.op, (ast.Add, ast.Mult)):
        return is_made(value.left) or is_made(value.right)
    if isinstance(value, ast.Subscript):
        return isinstance(value.slice, ast.Slice)
    return isinstance(value, ast.Call) and name_of(value.func) in MADE_BY_CALL


def holds_only_what_is_made(value):
    if isinstance(value, ast.ListComp):
        return is_made(value.elt)
    return isinstance(value, (ast.Dict, ast.List)) and not getattr(value, "elts", getattr(value, "values", None))


def name_of(node):
    return node.id if isinstance(node, ast.Name) else "?"


if __name__ == "__main__":
    unittest.main()
