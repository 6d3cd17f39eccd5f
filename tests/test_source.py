"""What the rules of the language set to the package's files, as far as it can be seen from their texts."""

import ast
import builtins
import io
import pathlib
import tokenize
import unittest

import clearsheets

PACKAGE = pathlib.Path(clearsheets.__file__).parent
FILES = sorted(path for path in PACKAGE.rglob("*") if path.is_file() and "__pycache__" not in path.parts)
TEXTS = {path: path.read_text(encoding="utf-8") for path in FILES}
TREES = {path: ast.parse(text) for path, text in TEXTS.items()}

# L8 and L25, without what the package has no use for.
BUILTINS = {"len", "range", "enumerate", "zip", "min", "max", "sum", "abs", "sorted", "reversed", "int", "str",
            "bool", "list", "tuple", "dict", "set", "isinstance", "ord", "repr", "any", "all", "divmod", "property",
            "ValueError", "LookupError"}
METHODS = {"append", "count", "endswith", "extend", "find", "get", "index", "insert", "isdigit", "items", "join",
           "keys", "pop", "remove", "replace", "setdefault", "split", "startswith", "strip", "update", "values"}
LIBRARY = {"math": {"gcd", "lcm", "isqrt", "comb", "perm", "factorial"},
           "itertools": {"product", "combinations", "permutations"}}
BARRED_NODES = (ast.GeneratorExp, ast.Lambda, ast.Set, ast.SetComp, ast.Global, ast.AsyncFunctionDef, ast.Await,
                ast.Import, ast.Yield, ast.YieldFrom, ast.Div, ast.Starred)
BARRED_WORDS = {"type", "typing", "enum", "Enum", "Flag", "Generic", "Protocol", "ABC", "namedtuple", "TypedDict",
                "register", "mro", "elements", "open", "input", "law", "super", "vars", "dir", "id", "exit", "help",
                "copyright", "license", "sys", "os"}
SPECIAL = {"__init__", "__eq__", "__len__", "__str__"}


def nodes(kind):
    """Yield all nodes of the kind, each with its file."""
    for path, tree in TREES.items():
        for node in ast.walk(tree):
            if isinstance(node, kind):
                yield path, node


def bound_names(tree):
    """Return the names that a file binds at module level, but for those it imports."""
    found = [node.name for node in tree.body if isinstance(node, (ast.FunctionDef, ast.ClassDef))]
    return found + [node.targets[0].id for node in tree.body if isinstance(node, ast.Assign)]


class SourceTest(unittest.TestCase):

    def test_nothing_but_python_files(self):
        self.assertIn(PACKAGE / "__init__.py", FILES)
        for path in FILES:
            self.assertEqual(path.suffix, ".py", path)
            self.assertEqual(path.name, path.name.lower())

    def test_characters(self):
        for path, text in TEXTS.items():
            for sign in text:
                self.assertTrue(sign == "\n" or " " <= sign <= "~", (path, sign))

    def test_sizes(self):
        for path, text in TEXTS.items():
            lines = text.split("\n")
            self.assertLessEqual(len(lines) - 1, 399, path)
            self.assertLessEqual(max(len(line) for line in lines), 120, path)

    def test_functions(self):
        for path, node in nodes(ast.FunctionDef):
            self.assertLessEqual(node.end_lineno - node.lineno + 1, 40, (path, node.name))
            self.assertTrue(not node.name.startswith("__") or node.name in SPECIAL, (path, node.name))

    def test_module_level(self):
        for path, tree in TREES.items():
            for at, node in enumerate(tree.body):
                told = isinstance(node, ast.Expr) and isinstance(node.value, ast.Constant) and at == 0
                self.assertTrue(told or isinstance(node, (ast.ImportFrom, ast.FunctionDef, ast.ClassDef, ast.Assign)),
                                (path, node.lineno))

    def test_imports(self):
        for path, node in nodes(ast.ImportFrom):
            names = [name.name for name in node.names]
            self.assertEqual((node.level, [name.asname for name in node.names]), (0, [None] * len(names)), path)
            if node.module in LIBRARY:
                self.assertLessEqual(set(names), LIBRARY[node.module], path)
                continue
            # Names come from the very file that defines them.
            package, _, file = node.module.partition(".")
            self.assertEqual(package, "clearsheets")
            self.assertLessEqual(set(names), set(bound_names(TREES[PACKAGE / f"{file}.py"])), path)

    def test_each_name_is_bound_once_and_used(self):
        for path, tree in TREES.items():
            imported = [name.name for node in tree.body if isinstance(node, ast.ImportFrom) for name in node.names]
            bound = imported + bound_names(tree)
            self.assertEqual(len(bound), len(set(bound)), path)
            read = {node.id for node in ast.walk(tree) if isinstance(node, ast.Name)}
            self.assertLessEqual({name for name in bound if name in imported or name.startswith("_")}, read, path)
            stored = {node.id for node in ast.walk(tree)
                      if isinstance(node, ast.Name) and isinstance(node.ctx, ast.Store)}
            stored |= {node.arg for node in ast.walk(tree) if isinstance(node, ast.arg)}
            self.assertFalse(stored & (set(imported) | set(dir(builtins))), path)

    def test_builtins(self):
        for path, node in nodes(ast.Name):
            if isinstance(node.ctx, ast.Load) and node.id in dir(builtins):
                self.assertIn(node.id, BUILTINS, (path, node.lineno))

    def test_attributes(self):
        own = {node.name for _, node in nodes(ast.FunctionDef)}
        own |= {node.attr for _, node in nodes(ast.Attribute) if isinstance(node.ctx, ast.Store)}
        for path, node in nodes(ast.Attribute):
            self.assertIn(node.attr, own | METHODS, (path, node.lineno))

    def test_what_is_not_used(self):
        for path, node in nodes(BARRED_NODES):
            self.fail((path, ast.dump(node)[:60]))
        for path, node in nodes(ast.Constant):
            self.assertNotIsInstance(node.value, (float, complex), path)
            if isinstance(node.value, str):
                self.assertNotIn("%", node.value, path)

    def test_words(self):
        for path, text in TEXTS.items():
            for token in tokenize.generate_tokens(io.StringIO(text).readline):
                if token.type == tokenize.NAME:
                    self.assertNotIn(token.string, BARRED_WORDS, (path, token.start))

    def test_decorators(self):
        for path, node in nodes((ast.FunctionDef, ast.ClassDef)):
            self.assertIn([ast.unparse(each) for each in node.decorator_list], ([], ["property"]), (path, node.name))


if __name__ == "__main__":
    unittest.main()
