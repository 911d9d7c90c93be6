"""Some of the rules for the files of the package that can be seen at a glance."""

import ast
import pathlib
import unittest

import buzzround

FOLDER = pathlib.Path(buzzround.__file__).parent
FILES = sorted(FOLDER.glob("*.py"))


class Language(unittest.TestCase):
    def test_the_folder_contains_files_of_code_alone(self):
        found = {path.name for path in FOLDER.iterdir()} - {"__pycache__"}
        self.assertEqual(found, {path.name for path in FILES})
        self.assertIn("__init__.py", found)

    def test_sizes_and_signs(self):
        for path in FILES:
            with self.subTest(path.name):
                text = path.read_text(encoding="utf-8")
                self.assertTrue(all(sign == "\n" or " " <= sign <= "~" for sign in text))
                lines = text.split("\n")
                self.assertLess(len(lines), 400)
                self.assertLessEqual(max(len(line) for line in lines), 120)

    def test_functions_have_forty_lines_at_most(self):
        for path, node in self.nodes(ast.FunctionDef):
            with self.subTest(path.name, name=node.name):
                self.assertLessEqual(node.end_lineno - node.lineno + 1, 40)

    def test_imports_are_from_the_package(self):
        self.assertEqual(list(self.nodes(ast.Import)), [])
        for path, node in self.nodes(ast.ImportFrom):
            with self.subTest(path.name, module=node.module):
                self.assertEqual(node.level, 0)
                self.assertIn(node.module.split(".")[0], ("buzzround", "heapq", "math", "itertools", "collections"))

    def test_numbers_are_integers(self):
        self.assertEqual([path.name for path, node in self.nodes(ast.Div)], [])
        for path, node in self.nodes(ast.Constant):
            self.assertNotIsInstance(node.value, (float, complex), path.name)

    def test_no_character_of_formats_in_strings(self):
        for path, node in self.nodes(ast.Constant):
            if isinstance(node.value, str):
                self.assertNotIn("%", node.value, path.name)

    def nodes(self, sort):
        for path in FILES:
            for node in ast.walk(ast.parse(path.read_text(encoding="utf-8"))):
                if isinstance(node, sort):
                    yield path, node


if __name__ == "__main__":
    unittest.main()
