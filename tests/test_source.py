"""The sizes and characters that the rules L1, L10 and L14 of the language set to the package's files."""

import ast
import pathlib
import unittest

import clearsheets

PACKAGE = pathlib.Path(clearsheets.__file__).parent
FILES = sorted(path for path in PACKAGE.rglob("*") if path.is_file() and "__pycache__" not in path.parts)


class SourceTest(unittest.TestCase):

    def test_nothing_but_python_files(self):
        self.assertIn(PACKAGE / "__init__.py", FILES)
        for path in FILES:
            self.assertEqual(path.suffix, ".py", path)
            self.assertEqual(path.name, path.name.lower())

    def test_characters(self):
        for path in FILES:
            for sign in path.read_text(encoding="utf-8"):
                self.assertTrue(sign == "\n" or " " <= sign <= "~", (path, sign))

    def test_sizes(self):
        for path in FILES:
            lines = path.read_text(encoding="utf-8").split("\n")
            self.assertLessEqual(len(lines) - 1, 399, path)
            self.assertLessEqual(max(len(line) for line in lines), 120, path)

    def test_functions(self):
        for path in FILES:
            for node in ast.walk(ast.parse(path.read_text(encoding="utf-8"))):
                if isinstance(node, ast.FunctionDef):
                    self.assertLessEqual(node.end_lineno - node.lineno + 1, 40, (path, node.name))

    def test_imports(self):
        for path in FILES:
            for node in ast.walk(ast.parse(path.read_text(encoding="utf-8"))):
                if isinstance(node, ast.ImportFrom):
                    self.assertEqual(node.level, 0, path)
                    self.assertNotIn("*", [name.name for name in node.names], path)


if __name__ == "__main__":
    unittest.main()
