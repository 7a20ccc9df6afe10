"""Some of the rules of the language of the program that a look at its files can check."""

import ast
import builtins
import pathlib
import re
import unittest
import warnings

PACKAGE = pathlib.Path(__file__).resolve().parent.parent / "alsoshown"
LIBRARY = {"heapq", "math", "itertools", "collections"}
BUILTINS = """len range enumerate zip min max sum abs sorted reversed int str bool bytes list tuple dict set frozenset
isinstance ord repr any all divmod pow getattr hasattr setattr iter next map property staticmethod classmethod super
Exception ValueError TypeError KeyError IndexError LookupError ZeroDivisionError ArithmeticError OverflowError
RuntimeError NotImplementedError AttributeError StopIteration NotImplemented object""".split()
METHODS = """append clear copy count endswith extend find get index insert isalnum isalpha isdigit islower isspace
isupper items join keys ljust lower lstrip partition pop remove replace reverse rfind rjust rpartition rsplit rstrip
setdefault split splitlines startswith strip update upper values zfill bit_length add discard title capitalize
swapcase casefold center expandtabs removeprefix removesuffix rindex isascii isdecimal isnumeric istitle isidentifier
isprintable""".split()
BARRED = (ast.Global, ast.AsyncFunctionDef, ast.AsyncFor, ast.AsyncWith, ast.Await, ast.Div, ast.MatMult)
# Of these kinds of values, methods that are not listed above may not be called.
KINDS = (str, int, bytes, list, tuple, dict, set)


def files():
    return sorted(path for path in PACKAGE.rglob("*") if "__pycache__" not in path.parts)


def trees():
    for path in files():
        if path.suffix == ".py":
            yield path.name, ast.parse(path.read_text(encoding="utf-8"))


def nodes(kind):
    for name, tree in trees():
        for node in ast.walk(tree):
            if isinstance(node, kind):
                yield f"{name}:{getattr(node, 'lineno', 0)}", node


class LanguageTest(unittest.TestCase):
    def test_files(self):
        for path in files():
            self.assertRegex(path.name, r"^(_*[a-z0-9_]+\.py)$")
        self.assertTrue((PACKAGE / "__init__.py").exists())

    def test_sizes_and_characters(self):
        for path in files():
            text = path.read_text(encoding="utf-8")
            rows = text.split("\n")
            self.assertLessEqual(len(rows), 399, path)
            self.assertLessEqual(max(len(row) for row in rows), 120, path)
            self.assertRegex(text, re.compile(r"\A[ -~\n]*\Z"), path)
        for place, node in nodes(ast.FunctionDef):
            self.assertLessEqual(node.end_lineno - node.lineno + 1, 40, place)

    def test_imports(self):
        self.assertEqual(list(nodes(ast.Import)), [])
        for place, node in nodes(ast.ImportFrom):
            self.assertEqual(node.level, 0, place)
            if node.module in LIBRARY or node.module == "__future__":
                continue
            package, _, name = node.module.partition(".")
            self.assertEqual(package, "alsoshown", place)
            tree = ast.parse((PACKAGE / f"{name}.py").read_text(encoding="utf-8"))
            defined = [row.name for row in tree.body if isinstance(row, (ast.FunctionDef, ast.ClassDef))]
            defined += [row.targets[0].id for row in tree.body if isinstance(row, ast.Assign)]
            for alias in node.names:
                self.assertIsNone(alias.asname, place)
                self.assertIn(alias.name, defined, place)

    def test_statements_and_values(self):
        self.assertEqual([place for place, _ in nodes(BARRED)], [])
        self.assertEqual([place for place, node in nodes(ast.Constant) if isinstance(node.value, float)], [])
        self.assertEqual([place for place, node in nodes(ast.ExceptHandler) if node.type is None], [])

    def test_builtins_and_methods(self):
        for place, node in nodes(ast.Name):
            if hasattr(builtins, node.id):
                self.assertIn(node.id, BUILTINS, place)
        for place, node in nodes(ast.Attribute):
            if any(hasattr(kind, node.attr) for kind in KINDS):
                self.assertIn(node.attr, [*METHODS, "__init__"], place)

    def test_what_equal_nets_and_operators_bar(self):
        takers = {"any", "all", "min", "max", "sum", "sorted"}
        for place, node in nodes(ast.Call):
            if isinstance(node.func, ast.Name) and node.func.id in takers:
                self.assertFalse([given for given in node.args if isinstance(given, ast.GeneratorExp)], place)
            self.assertFalse(isinstance(node.func, ast.Attribute) and node.func.attr == "sort", place)

    def test_nothing_warns(self):
        for path in files():
            with warnings.catch_warnings():
                warnings.simplefilter("error")
                compile(path.read_text(encoding="utf-8"), str(path), "exec")


if __name__ == "__main__":
    unittest.main()
