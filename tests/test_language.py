"""The rules of LANGUAGE.md that can be counted: files, imports, sizes, characters, and some expressions."""

import ast
import builtins
import unittest
from pathlib import Path

PACKAGE = Path(__file__).resolve().parent.parent / "evenbits"
LIBRARY = {"heapq", "math", "itertools", "collections"}
# Beside a class with __eq__ these take no generator expression.
LISTS_ONLY = {"any", "all", "min", "max", "sum", "sorted"}


def sources():
    return [(path, path.read_bytes()) for path in sorted(PACKAGE.glob("**/*.py"))]


class LanguageTest(unittest.TestCase):

    def nodes(self, *kinds):
        for path, text in sources():
            for node in ast.walk(ast.parse(text)):
                if isinstance(node, kinds):
                    yield node, f"{path.name}:{getattr(node, 'lineno', 0)}"

    def test_files(self):
        self.assertTrue((PACKAGE / "__init__.py").is_file())
        for path in PACKAGE.glob("**/*"):
            if path.name != "__pycache__" and path.parent.name != "__pycache__":
                self.assertRegex(path.name, r"^[a-z0-9_]+\.py$")

    def test_characters_and_sizes(self):
        for path, text in sources():
            self.assertTrue(all(code == 10 or 32 <= code <= 126 for code in text), path)
            lines = text.decode("ascii").split("\n")
            self.assertLessEqual(len(lines), 399, path)
            self.assertLessEqual(max(len(line) for line in lines), 120, path)

    def test_functions_have_at_most_forty_lines(self):
        for node, place in self.nodes(ast.FunctionDef):
            self.assertLessEqual(node.end_lineno - node.lineno + 1, 40, place)

    def test_imports(self):
        for node, place in self.nodes(ast.Import, ast.ImportFrom):
            self.assertIsInstance(node, ast.ImportFrom, place)
            self.assertEqual(node.level, 0, place)
            root = node.module.split(".")[0]
            self.assertTrue(root == "evenbits" or node.module in LIBRARY, place)
            self.assertNotIn("*", [alias.name for alias in node.names], place)

    def test_imports_from_the_file_that_defines_the_name(self):
        defined = {}
        for path, text in sources():
            names = set()
            for node in ast.parse(text).body:
                if isinstance(node, (ast.FunctionDef, ast.ClassDef)):
                    names.add(node.name)
                elif isinstance(node, ast.Assign):
                    names |= {target.id for target in node.targets}
            defined[f"evenbits.{path.stem}"] = names
        for node, place in self.nodes(ast.ImportFrom):
            if node.module not in LIBRARY:
                for alias in node.names:
                    self.assertIsNone(alias.asname, place)
                    self.assertIn(alias.name, defined[node.module], place)

    def test_no_name_of_a_builtin_or_an_import_is_given_another_meaning(self):
        for path, text in sources():
            tree = ast.parse(text)
            imported = {alias.name for node in ast.walk(tree) if isinstance(node, ast.ImportFrom)
                        for alias in node.names}
            classes = {node.name for node in ast.walk(tree) if isinstance(node, ast.ClassDef)}
            for node in ast.walk(tree):
                told = set()
                if isinstance(node, ast.Name) and isinstance(node.ctx, ast.Store):
                    told.add(node.id)
                elif isinstance(node, (ast.FunctionDef, ast.Lambda)):
                    told |= {argument.arg for argument in ast.walk(node.args) if isinstance(argument, ast.arg)}
                self.assertEqual(told & (imported | classes | set(dir(builtins))), set(), path)

    def test_whole_numbers_only(self):
        for node, place in self.nodes(ast.Constant):
            self.assertNotIsInstance(node.value, (float, complex), place)
        for node, place in self.nodes(ast.BinOp, ast.AugAssign):
            self.assertNotIsInstance(node.op, ast.Div, place)

    def test_lists_instead_of_generator_expressions(self):
        for node, place in self.nodes(ast.Call):
            if isinstance(node.func, ast.Name) and node.func.id in LISTS_ONLY:
                for argument in node.args:
                    self.assertNotIsInstance(argument, ast.GeneratorExp, place)
            if isinstance(node.func, ast.Attribute):
                self.assertNotEqual(node.func.attr, "sort", place)

    def test_no_tests_inside_the_package(self):
        for path, _ in sources():
            self.assertFalse(path.name.startswith("test"), path)


if __name__ == "__main__":
    unittest.main()
