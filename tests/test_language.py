"""Some of the rules of the language of the program that a look at its files can check."""

import ast
import builtins
import pathlib
import re
import unittest
import warnings

PACKAGE = pathlib.Path(__file__).resolve().parent.parent / "alsoshown"
LIBRARY = {"heapq", "math", "itertools", "collections"}
BUILTINS = """len range enumerate zip min max sum abs sorted reversed int str bool bytes list tuple dict set frozenset
isinstance ord repr any all divmod pow getattr hasattr setattr iter next map property staticmethod classmethod super
Exception ValueError TypeError KeyError IndexError LookupError ZeroDivisionError ArithmeticError OverflowError
RuntimeError NotImplementedError AttributeError StopIteration NotImplemented object""".split()
METHODS = """append clear copy count endswith extend find get index insert isalnum isalpha isdigit islower isspace
isupper items join keys ljust lower lstrip partition pop remove replace reverse rfind rjust rpartition rsplit rstrip
setdefault split splitlines startswith strip update upper values zfill bit_length add discard title capitalize
swapcase casefold center expandtabs removeprefix removesuffix rindex isascii isdecimal isnumeric istitle isidentifier
isprintable""".split()
BARRED = (ast.Global, ast.AsyncFunctionDef, ast.AsyncFor, ast.AsyncWith, ast.Await, ast.Div, ast.MatMult)
# Of these kinds of values, methods that are not listed above may not be called.
KINDS = (str, int, bytes, list, tuple, dict, set)


def files():
    return sorted(path for path in PACKAGE.rglob("*") if "__pycache__" not in path.parts)


def trees():
    for path in files():
        if path.suffix == ".py":
            yield path.name, ast.parse(path.read_text(encoding="utf-8"))


def nodes(kind):
    for name, tree in trees():
        for node in ast.walk(tree):
            if isinstance(node, kind):
                yield f"{name}:{getattr(node, 'lineno', 0)}", node


class LanguageTest(unittest.TestCase):
    def test_files(self):
        for path in files():
            self.assertRegex(path.name, r"^(_*[a-z0-9_]+\.py)$")
        self.assertTrue((PACKAGE / "__init__.py").exists())

    def test_sizes_and_characters(self):
        for path in files():
            text = path.read_text(encoding="utf-8")
            rows = text.split("\n")
            self.assertLessEqual(len(rows), 399, path)
            self.assertLessEqual(max(len(row) for row in rows), 120, path)
            self.assertRegex(text, re.compile(r"\A[ -~\n]*\Z"), path)
        for place, node in nodes(ast.FunctionDef):
            self.assertLessEqual(node.end_lineno - node.lineno + 1, 40, place)

    def test_imports(self):
        self.assertEqual(list(nodes(ast.Import)), [])
        for place, node in nodes(ast.ImportFrom):
            self.assertEqual(node.level, 0, place)
            if node.module in LIBRARY or node.module == "__future__":
                continue
            package, _, name = node.module.partition(".")
            self.assertEqual(package, "alsoshown", place)
            tree = ast.parse((PACKAGE / f"{name}.py").read_text(encoding="utf-8"))
            defined = [row.name for row in tree.body if isinstance(row, (ast.FunctionDef, ast.ClassDef))]
            defined += [row.targets[0].id for row in tree.body if isinstance(row, ast.Assign)]
            for alias in node.names:
                self.assertIsNone(alias.asname, place)
                self.assertIn(alias.name, defined, place)

    def test_statements_and_values(self):
        self.assertEqual([place for place, _ in nodes(BARRED)], [])
        self.assertEqual([place for place, node in nodes(ast.Constant) if isinstance(node.value, float)], [])
        self.assertEqual([place for place, node in nodes(ast.ExceptHandler) if node.type is None], [])

    def test_builtins_and_methods(self):
        for place, node in nodes(ast.Name):
            if hasattr(builtins, node.id):
                self.assertIn(node.id, BUILTINS, place)
        for place, node in nodes(ast.Attribute):
            if any(hasattr(kind, node.attr) for kind in KINDS):
                self.assertIn(node.attr, [*METHODS, "__init__"], place)

    def test_what_equal_nets_and_operators_bar(self):
        takers = {"any", "all", "min", "max", "sum", "sorted"}
        for place, node in nodes(ast.Call):
            if isinstance(node.func, ast.Name) and node.func.id in takers:
                self.assertFalse([given for given in node.args if isinstance(given, ast.GeneratorExp)], place)
            self.assertFalse(isinstance(node.func, ast.Attribute) and node.func.attr == "sort", place)

    def test_nothing_is_added_in_place(self):
        # Where a class has __iadd__ or __ior__, the rules for these signs are narrow; nothing here needs them.
        self.assertEqual([place for place, _ in nodes(ast.AugAssign)], [])

    def test_what_is_ordered(self):
        # Net has an order of its own, so only sets and what is plainly numbers or strings are sorted.
        for place, node in nodes(ast.Call):
            if isinstance(node.func, ast.Name) and node.func.id in ("sorted", "min", "max"):
                self.assertEqual((node.func.id, len(node.args), node.keywords), ("sorted", 1, []), place)
                inner = node.args[0]
                self.assertTrue(isinstance(inner, ast.Call) and getattr(inner.func, "id", "") == "set", place)

    def test_sets_are_only_sorted(self):
        self.assertEqual([place for place, _ in nodes((ast.Set, ast.SetComp))], [])
        ordered = [node.args[0] for _, node in nodes(ast.Call) if getattr(node.func, "id", "") == "sorted"]
        sets = [node for _, node in nodes(ast.Call) if getattr(node.func, "id", "") in ("set", "frozenset")]
        self.assertEqual([ast.dump(node) for node in sets], [ast.dump(node) for node in ordered])

    def test_values_of_modules_are_literals(self):
        for name, tree in trees():
            for row in tree.body:
                if isinstance(row, ast.Assign):
                    ast.literal_eval(row.value)

    def test_local_names(self):
        # No parameter, local variable or function has the name of a builtin, or of a class or an import of its file.
        for name, tree in trees():
            barred = {alias.name for row in tree.body if isinstance(row, ast.ImportFrom) for alias in row.names}
            barred |= {row.name for row in tree.body if isinstance(row, ast.ClassDef)} | set(dir(builtins))
            used = [node.arg for node in ast.walk(tree) if isinstance(node, ast.arg)]
            named = [node for node in ast.walk(tree) if isinstance(node, ast.Name)]
            used += [node.id for node in named if isinstance(node.ctx, ast.Store)]
            used += [row.name for row in tree.body if isinstance(row, ast.FunctionDef)]
            self.assertEqual(sorted(barred & set(used)), [], name)

    def test_properties_and_methods_have_names_of_their_own(self):
        stored = {node.attr for _, node in nodes(ast.Attribute) if isinstance(node.ctx, ast.Store)}
        methods, properties = set(), set()
        for _, node in nodes(ast.ClassDef):
            for row in node.body:
                if isinstance(row, ast.FunctionDef):
                    marks = [ast.unparse(mark) for mark in row.decorator_list]
                    (properties if marks in (["property"], [f"{row.name}.setter"]) else methods).add(row.name)
        self.assertEqual((methods & stored, properties & stored, properties & methods), (set(), set(), set()))

    def test_what_is_indexed_is_not_iterated_over(self):
        for place, node in nodes(ast.ClassDef):
            methods = [row.name for row in node.body if isinstance(row, ast.FunctionDef)]
            self.assertTrue("__getitem__" not in methods or "__iter__" in methods, place)

    def test_what_ends_a_with_statement_only_assigns(self):
        found = [node for _, node in nodes(ast.FunctionDef) if node.name == "__exit__"]
        self.assertEqual(len(found), 1)
        for row in found[0].body:
            self.assertIsInstance(row, ast.Assign)
            self.assertIsInstance(row.value, ast.Attribute)

    def test_generators_are_not_called_by_the_package(self):
        functions = [node for _, node in nodes(ast.FunctionDef)]
        found = [node.name for node in functions if any(isinstance(row, ast.Yield) for row in ast.walk(node))]
        self.assertIn("longest", found)
        self.assertEqual([place for place, node in nodes(ast.Name) if node.id in found], [])
        self.assertEqual([[node.name for node in functions].count(name) for name in found], [1] * len(found))

    def test_is_stands_beside_none_alone(self):
        for place, node in nodes(ast.Compare):
            if isinstance(node.ops[0], (ast.Is, ast.IsNot)):
                self.assertIsNone(node.comparators[0].value, place)

    def test_nothing_calls_itself(self):
        # A deep pattern or a large net must not lead to deep recursion.
        for place, node in nodes(ast.FunctionDef):
            calls = [row.func for row in ast.walk(node) if isinstance(row, ast.Call)]
            self.assertNotIn(node.name, [call.id for call in calls if isinstance(call, ast.Name)], place)

    def test_nothing_warns(self):
        for path in files():
            with warnings.catch_warnings():
                warnings.simplefilter("error")
                compile(path.read_text(encoding="utf-8"), str(path), "exec")


if __name__ == "__main__":
    unittest.main()
