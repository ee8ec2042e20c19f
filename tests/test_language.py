"""The form of the package: what can be seen of the language rules without running it."""

import ast
import pathlib
import unittest

import keptpictures

PACKAGE = pathlib.Path(keptpictures.__file__).parent
FILES = sorted(PACKAGE.rglob("*.py"))
OUTSIDE = {"heapq": ("heappush", "heappop", "heapify", "heapreplace", "heappushpop"),
           "math": ("gcd", "lcm", "isqrt", "comb", "perm", "factorial")}
CAUGHT = ("Exception", "BaseException", "TypeError", "ArithmeticError", "OverflowError", "RuntimeError",
          "NotImplementedError", "AttributeError")


def nodes(kind):
    """Return the pairs of a file and a node of this kind in it."""
    return [(file, node) for file in FILES for node in ast.walk(ast.parse(file.read_text())) if isinstance(node, kind)]


class LanguageTest(unittest.TestCase):
    def test_the_package_holds_nothing_but_its_files(self):
        for path in PACKAGE.rglob("*"):
            if "__pycache__" in path.parts:
                continue
            if path.is_dir():
                self.assertTrue((path / "__init__.py").is_file(), path)
                self.assertFalse(path.with_suffix(".py").exists(), path)
            else:
                self.assertEqual(path.suffix, ".py", path)
                self.assertRegex(path.stem, "^[a-z0-9_]+$")
        self.assertLessEqual(len(FILES), 100)

    def test_sizes_and_characters(self):
        for file in FILES:
            text = file.read_text(encoding="utf-8")
            lines = text.split("\n")
            self.assertLessEqual(len(lines), 400, file)
            self.assertLessEqual(max(len(line) for line in lines), 120, file)
            self.assertTrue(all(character == "\n" or " " <= character <= "~" for character in text), file)

    def test_functions_have_at_most_40_lines(self):
        for file, node in nodes(ast.FunctionDef):
            self.assertLessEqual(node.end_lineno - node.lineno + 1, 40, (file, node.name))

    def test_only_the_package_and_a_few_functions_are_imported(self):
        self.assertEqual(nodes(ast.Import), [])
        for file, node in nodes(ast.ImportFrom):
            self.assertEqual(node.level, 0, file)
            for alias in node.names:
                self.assertIsNone(alias.asname, file)
                own = (PACKAGE.parent / (node.module.replace(".", "/") + ".py")).is_file()
                self.assertTrue(own or alias.name in OUTSIDE.get(node.module, ()), (file, node.module, alias.name))

    def test_no_floats_and_no_true_division(self):
        for file, node in nodes(ast.Constant):
            self.assertNotIsInstance(node.value, (float, complex), file)
        for file, node in nodes((ast.BinOp, ast.AugAssign)):
            self.assertNotIsInstance(node.op, ast.Div, file)

    def test_the_only_decorators_are_those_of_static_methods_and_properties(self):
        for file, node in nodes((ast.FunctionDef, ast.ClassDef)):
            for decorator in node.decorator_list:
                self.assertIsInstance(node, ast.FunctionDef, file)
                allowed = ("staticmethod", "property", node.name + ".setter")
                self.assertIn(ast.unparse(decorator), allowed, (file, node.name))

    def test_lists_are_not_sorted_in_place(self):
        for file, node in nodes(ast.Attribute):
            self.assertNotEqual(node.attr, "sort", file)

    def test_there_are_no_generator_expressions(self):
        # They would be allowed in a few places that the package does not need.
        self.assertEqual(nodes(ast.GeneratorExp), [])

    def test_only_named_errors_are_caught(self):
        for file, node in nodes(ast.ExceptHandler):
            names = [name.id for name in ast.walk(node.type) if isinstance(name, ast.Name)]
            self.assertTrue(names, file)
            self.assertFalse(set(names) & set(CAUGHT), file)

    def test_every_function_and_class_is_told_about(self):
        for file, node in nodes((ast.FunctionDef, ast.ClassDef)):
            if not node.name.startswith("__"):
                self.assertTrue(ast.get_docstring(node), (file, node.name))


if __name__ == "__main__":
    unittest.main()
