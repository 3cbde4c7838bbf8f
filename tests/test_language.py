"""The files of the package keep to the rules of the language that a machine sees easily."""

import ast
import builtins
import unittest
from pathlib import Path

PACKAGE = Path(__file__).resolve().parent.parent / "fourstrokes"
FILES = sorted(PACKAGE.glob("*.py"))

ALLOWED = set(
    "len range enumerate zip min max sum abs sorted reversed int str bool bytes list tuple dict set frozenset isinstance"
    " ord repr any all divmod pow getattr hasattr setattr iter next map Exception ValueError TypeError KeyError"
    " IndexError LookupError ZeroDivisionError ArithmeticError OverflowError RuntimeError NotImplementedError"
    " AttributeError StopIteration NotImplemented super property staticmethod classmethod".split())
LIBRARY = {
    "heapq": {"heappush", "heappop", "heapify", "heapreplace", "heappushpop"},
    "math": {"gcd", "lcm", "isqrt", "comb", "perm", "factorial"},
    "itertools": {"product", "combinations", "permutations", "chain", "accumulate", "pairwise", "islice", "zip_longest"},
    "collections": {"defaultdict"},
}
BARRED = (ast.Global, ast.AsyncFunctionDef, ast.AsyncFor, ast.AsyncWith, ast.Await, ast.Div, ast.MatMult)


def trees():
    return [(path.name, ast.parse(path.read_text(encoding="utf-8"))) for path in FILES]


def nodes(kind):
    return [(name, node) for name, tree in trees() for node in ast.walk(tree) if isinstance(node, kind)]


def imported(tree):
    return [
        (node.module, alias.name) for node in ast.walk(tree) if isinstance(node, ast.ImportFrom) for alias in node.names
    ]


class Files(unittest.TestCase):

    def test_the_folder_holds_python_files_alone(self):
        for path in PACKAGE.iterdir():
            if path.name != "__pycache__":
                self.assertTrue(path.is_file() and path.suffix == ".py" and path.name == path.name.lower(), path)
        self.assertIn("__init__.py", [path.name for path in FILES])

    def test_sizes_and_characters(self):
        for path in FILES:
            text = path.read_text(encoding="utf-8")
            self.assertTrue(all(sign == "\n" or " " <= sign <= "~" for sign in text), path)
            self.assertLessEqual(text.count("\n"), 399, path)
            self.assertLessEqual(max(len(line) for line in text.split("\n")), 120, path)

    def test_functions_have_at_most_40_lines(self):
        for name, node in nodes(ast.FunctionDef):
            self.assertLessEqual(node.end_lineno - node.lineno + 1, 40, (name, node.name))


class Imports(unittest.TestCase):

    def test_each_import_is_by_name_from_the_package_or_the_library(self):
        self.assertEqual([name for name, _ in nodes(ast.Import)], [])
        for name, node in nodes(ast.ImportFrom):
            self.assertEqual((node.level, [alias.asname for alias in node.names]), (0, [None] * len(node.names)), name)
            for alias in node.names:
                if node.module in LIBRARY:
                    self.assertIn(alias.name, LIBRARY[node.module], name)
                else:
                    self.assertTrue(node.module.startswith("fourstrokes."), name)

    def test_each_import_names_the_file_that_defines_the_name(self):
        defined = {}
        for name, tree in trees():
            for node in tree.body:
                if isinstance(node, (ast.FunctionDef, ast.ClassDef)):
                    defined.setdefault(name, set()).add(node.name)
                if isinstance(node, ast.Assign):
                    defined.setdefault(name, set()).update(target.id for target in node.targets)
        for name, tree in trees():
            for module, word in imported(tree):
                if module not in LIBRARY:
                    self.assertIn(word, defined[module.split(".")[1] + ".py"], name)

    def test_each_import_is_used_and_no_two_files_import_each_other(self):
        needs = {name: {module.split(".")[1] + ".py" for module, _ in imported(tree) if module not in LIBRARY}
                 for name, tree in trees()}
        while needs:
            free = [name for name in needs if not needs[name] & set(needs)]
            self.assertTrue(free, needs)
            for name in free:
                del needs[name]
        for name, tree in trees():
            used = {node.id for node in ast.walk(tree) if isinstance(node, ast.Name)}
            for _, word in imported(tree):
                self.assertIn(word, used, name)


class Words(unittest.TestCase):

    def test_no_barred_statements_and_values(self):
        self.assertEqual([(name, node) for name, node in nodes(BARRED)], [])
        for name, node in nodes(ast.Constant):
            self.assertNotIsInstance(node.value, (float, complex), name)
            if isinstance(node.value, str):
                self.assertNotIn("%", node.value, name)

    def test_builtins_are_the_allowed_ones(self):
        for name, node in nodes(ast.Name):
            if hasattr(builtins, node.id):
                self.assertIn(node.id, ALLOWED, name)
                self.assertIsInstance(node.ctx, ast.Load, (name, node.id))

    def test_no_parameter_or_variable_hides_a_builtin_a_class_or_an_import(self):
        for name, tree in trees():
            taken = {word for _, word in imported(tree)} | set(dir(builtins))
            taken |= {node.name for node in ast.walk(tree) if isinstance(node, ast.ClassDef)}
            for node in ast.walk(tree):
                if isinstance(node, ast.arg):
                    self.assertNotIn(node.arg, taken, name)
                if isinstance(node, ast.Name) and isinstance(node.ctx, ast.Store):
                    self.assertNotIn(node.id, taken, name)

    def test_is_stands_beside_none_and_flags_alone(self):
        for name, node in nodes(ast.Compare):
            for sign, side in zip(node.ops, node.comparators):
                if isinstance(sign, (ast.Is, ast.IsNot)):
                    self.assertTrue(isinstance(side, ast.Constant) and side.value in (None, True, False), name)

    def test_no_generator_expressions(self):
        self.assertEqual([(name, node.lineno) for name, node in nodes(ast.GeneratorExp)], [])

    def test_no_decorators(self):
        for name, node in nodes((ast.FunctionDef, ast.ClassDef)):
            self.assertEqual(node.decorator_list, [], (name, node.name))


if __name__ == "__main__":
    unittest.main()
