"""The form of the code, as far as a test sees it: files, sizes, names and statements of the subset."""

import ast
import builtins
import os
import unittest
import warnings

ROOT = os.path.join(os.path.dirname(os.path.dirname(os.path.abspath(__file__))), "quickexact")
NODES = """Module Import ImportFrom alias FunctionDef ClassDef arguments arg Return Assign AugAssign Delete For While If
Raise Try ExceptHandler Assert Expr Pass Break Continue BoolOp And Or BinOp Add Sub Mult Mod FloorDiv Pow BitAnd BitOr
BitXor LShift RShift UnaryOp Not USub Invert Lambda IfExp Dict Set ListComp DictComp comprehension Compare Eq NotEq Lt
LtE Gt GtE Is IsNot In NotIn Call keyword JoinedStr FormattedValue Constant Attribute Subscript Slice Starred Name
List Tuple Load Store Del""".split()
BUILTINS = """len range enumerate zip min max sum abs sorted reversed int str bool list tuple dict set isinstance ord repr
any all divmod Exception ValueError TypeError KeyError IndexError LookupError ZeroDivisionError ArithmeticError
OverflowError RuntimeError NotImplementedError""".split()
METHODS = """append clear copy count endswith extend find get index insert isalnum isalpha isdigit islower isspace
isupper items join keys ljust lower lstrip partition pop remove replace reverse rfind rjust rpartition rsplit rstrip
setdefault split splitlines startswith strip update upper values zfill bit_length add discard __init__
removeprefix removesuffix""".split()
# Methods that no call names.
UNDERSCORED = ("__init__", "__len__", "__eq__")
FROM_OUTSIDE = {"math": ("gcd", "lcm", "isqrt", "comb"), "heapq": ("heappush", "heappop"),
                "itertools": ("combinations",)}


def files():
    for folder, _, names in os.walk(ROOT):
        if not folder.endswith("__pycache__"):
            for name in sorted(names):
                yield os.path.join(folder, name)


def texts():
    for path in files():
        with open(path, encoding="utf-8", newline="") as opened:
            yield os.path.basename(path), opened.read()


def trees():
    for name, text in texts():
        yield name, ast.parse(text)


class Form(unittest.TestCase):
    def test_one_folder_of_python_files(self):
        for path in files():
            name = os.path.basename(path)
            self.assertEqual(os.path.dirname(path), ROOT)
            self.assertRegex(name, r"^(__init__|[a-z][a-z0-9_]*)\.py$")
            self.assertFalse(name.startswith("test"))
        self.assertIn("__init__.py", os.listdir(ROOT))

    def test_sizes_and_characters(self):
        for name, text in texts():
            lines = text.split("\n")
            self.assertLessEqual(len(lines), 399, name)
            self.assertLessEqual(max(len(line) for line in lines), 120, name)
            for letter in text:
                self.assertTrue(letter == "\n" or " " <= letter <= "~", (name, letter))

    def test_no_warning(self):
        for name, text in texts():
            with warnings.catch_warnings():
                warnings.simplefilter("error")
                compile(text, name, "exec")

    def test_functions_are_small_and_plain(self):
        for name, tree in trees():
            for node in ast.walk(tree):
                if isinstance(node, ast.FunctionDef):
                    self.assertLessEqual(node.end_lineno - node.lineno + 1, 40, (name, node.name))
                    self.assertEqual(node.decorator_list, [], (name, node.name))

    def test_nodes(self):
        for name, tree in trees():
            for node in ast.walk(tree):
                self.assertIn(node.__class__.__name__, NODES, (name, getattr(node, "lineno", 0)))
                if isinstance(node, ast.Constant):
                    self.assertNotIsInstance(node.value, (float, complex, bytes))
                    self.assertNotIn("%", str(node.value))

    def test_module_level(self):
        allowed = (ast.ImportFrom, ast.FunctionDef, ast.ClassDef, ast.Assign, ast.Expr)
        for name, tree in trees():
            for node in tree.body:
                self.assertIsInstance(node, allowed, (name, node.lineno))
                if isinstance(node, ast.Expr):
                    self.assertIsInstance(node.value, ast.Constant, (name, node.lineno))

    def test_imports(self):
        own = {"quickexact." + name[:-3]: tree for name, tree in trees()}
        for name, tree in trees():
            for node in ast.walk(tree):
                if isinstance(node, ast.ImportFrom):
                    self.assertIn(node, tree.body, name)
                    words = [one.name for one in node.names]
                    if node.module in FROM_OUTSIDE:
                        self.assertLessEqual(set(words), set(FROM_OUTSIDE[node.module]))
                        continue
                    self.assertIn(node.module, own, name)
                    self.assertLessEqual(set(words), self.defined(own[node.module]), name)
                self.assertNotIsInstance(node, ast.Import, name)

    def defined(self, tree):
        found = set()
        for node in tree.body:
            if isinstance(node, (ast.FunctionDef, ast.ClassDef)):
                found.add(node.name)
            if isinstance(node, ast.Assign):
                found.update(target.id for target in node.targets)
        return found

    def test_no_import_in_a_circle(self):
        behind = {}
        for name, tree in trees():
            modules = [node.module for node in tree.body if isinstance(node, ast.ImportFrom)]
            behind["quickexact." + name[:-3]] = [module for module in modules if module not in FROM_OUTSIDE]
        while behind:
            free = [module for module, others in behind.items() if not any(one in behind for one in others)]
            self.assertNotEqual(free, [], "these import from each other: " + ", ".join(behind))
            for module in free:
                del behind[module]

    def test_names(self):
        for name, tree in trees():
            taken = set()
            methods = []
            for node in tree.body:
                if isinstance(node, ast.ImportFrom):
                    taken.update(one.name for one in node.names)
                if isinstance(node, ast.ClassDef):
                    taken.add(node.name)
                    methods += [one for one in node.body if isinstance(one, ast.FunctionDef)]
            for node in ast.walk(tree):
                if isinstance(node, ast.Name) and isinstance(node.ctx, ast.Load) and hasattr(builtins, node.id):
                    self.assertIn(node.id, BUILTINS, (name, node.lineno))
                if isinstance(node, ast.Name) and isinstance(node.ctx, ast.Load):
                    self.assertNotEqual(node.id, "_", (name, node.lineno))
                for bound in self.bound_by(node):
                    # The library's doctest keeps its last value under this name among the builtins.
                    if bound == "_":
                        continue
                    self.assertFalse(hasattr(builtins, bound), (name, node.lineno, bound))
                    self.assertFalse(bound.startswith("__"), (name, node.lineno, bound))
                    # A method may be called as what its file imports: the one is always behind a dot.
                    if node not in methods:
                        self.assertNotIn(bound, taken, (name, node.lineno))

    def bound_by(self, node):
        if isinstance(node, ast.Name) and isinstance(node.ctx, ast.Store):
            return [node.id]
        if isinstance(node, ast.arg):
            return [node.arg]
        if isinstance(node, ast.FunctionDef) and node.name not in UNDERSCORED:
            return [node.name]
        return []

    def test_methods_of_builtin_values(self):
        for name, tree in trees():
            own = [node.name for _, other in trees() for node in ast.walk(other) if isinstance(node, ast.FunctionDef)]
            for node in ast.walk(tree):
                if isinstance(node, ast.Call) and isinstance(node.func, ast.Attribute):
                    self.assertIn(node.func.attr, METHODS + own, (name, node.lineno))

    def test_no_generators_and_is_beside_none_alone(self):
        for name, tree in trees():
            for node in ast.walk(tree):
                self.assertNotIsInstance(node, (ast.Yield, ast.YieldFrom, ast.GeneratorExp, ast.SetComp), name)
                if isinstance(node, ast.Compare) and isinstance(node.ops[0], (ast.Is, ast.IsNot)):
                    self.assertIsInstance(node.comparators[0], ast.Constant, (name, node.lineno))
                    self.assertIn(node.comparators[0].value, (None, True, False), (name, node.lineno))

    def test_everything_has_a_docstring(self):
        for name, tree in trees():
            self.assertIsNotNone(ast.get_docstring(tree), name)
            for node in ast.walk(tree):
                if isinstance(node, (ast.FunctionDef, ast.ClassDef)) and getattr(node, "name", "") != "__init__":
                    self.assertIsNotNone(ast.get_docstring(node), (name, node.name))

    def test_no_method_and_no_attribute_share_a_name(self):
        for name, tree in trees():
            for node in tree.body:
                if isinstance(node, ast.ClassDef):
                    methods = [one.name for one in node.body if isinstance(one, ast.FunctionDef)]
                    self.assertEqual(len(set(methods)), len(methods), (name, node.name))
                    for one in ast.walk(node):
                        if isinstance(one, ast.Attribute) and isinstance(one.ctx, ast.Store):
                            self.assertNotIn(one.attr, methods, (name, node.name))


if __name__ == "__main__":
    unittest.main()
