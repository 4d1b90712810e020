"""The package keeps to the small part of Python that it is written in, as far as a plain look can tell."""

import ast
import builtins
import pathlib
import re
import unittest

PACKAGE = pathlib.Path(__file__).resolve().parent.parent / "fewfind"
FILES = sorted(PACKAGE.rglob("*.py"))

FORBIDDEN_NODES = (
    ast.AnnAssign, ast.Assert, ast.AsyncFor, ast.AsyncFunctionDef, ast.AsyncWith, ast.Await, ast.Delete, ast.DictComp,
    ast.Div, ast.GeneratorExp, ast.Global, ast.Import, ast.MatMult, ast.Match, ast.NamedExpr, ast.Nonlocal, ast.Set,
    ast.SetComp, ast.Starred, ast.With, ast.Yield, ast.YieldFrom,
)
BUILTINS = set(
    "len range enumerate zip min max sum abs sorted reversed int str bool list tuple dict set frozenset isinstance "
    "ord repr any all divmod ValueError KeyError IndexError LookupError StopIteration".split()
)
METHODS = set(
    "append clear copy count endswith extend find get index insert isalnum isalpha isdigit islower isspace isupper "
    "items join keys ljust lower lstrip partition pop remove replace reverse rfind rjust rpartition rsplit rstrip "
    "setdefault split splitlines startswith strip update upper values zfill bit_length".split()
)
PYTHONS_OWN = {name for kind in (str, int, list, tuple, dict, set, bytes) for name in dir(kind)}
UNUSED_WORDS = re.compile(
    r"\b(type|typing|typing_extensions|enum|Enum|IntEnum|StrEnum|Flag|IntFlag|Generic|Protocol|ABC|ABCMeta|namedtuple"
    r"|NamedTuple|TypedDict|TYPE_CHECKING|abstractmethod)\b|dataclass|overload|contextmanager"
)


class Form(unittest.TestCase):
    def trees(self):
        for path in FILES:
            yield path, ast.parse(path.read_text(encoding="utf-8"))

    def nodes(self):
        for path, tree in self.trees():
            for node in ast.walk(tree):
                yield f"{path.name}:{getattr(node, 'lineno', 0)}", node

    def test_nothing_but_plain_files(self):
        self.assertIn("__init__.py", [path.name for path in FILES])
        for path in PACKAGE.rglob("*"):
            if "__pycache__" not in path.parts:
                self.assertRegex(path.name, r"\A([a-z0-9_]+\.py)\Z")

    def test_signs_lines_and_words(self):
        for path in FILES:
            text = path.read_bytes().decode("utf-8")
            self.assertRegex(text, r"\A[\n -~]*\Z", path.name)
            self.assertIsNone(UNUSED_WORDS.search(text), path.name)
            rows = text.split("\n")
            self.assertLessEqual(len(rows), 400, path.name)
            for number, row in enumerate(rows, 1):
                self.assertLessEqual(len(row), 120, f"{path.name}:{number}")

    def test_the_top_of_a_file(self):
        for path, tree in self.trees():
            bound = []
            for node in tree.body[1:]:
                self.assertIsInstance(node, (ast.ImportFrom, ast.FunctionDef, ast.ClassDef, ast.Assign), path.name)
                if isinstance(node, ast.Assign):
                    ast.literal_eval(node.value)
                    bound.append(node.targets[0].id)
                elif isinstance(node, ast.ImportFrom):
                    bound += [alias.name for alias in node.names]
                else:
                    bound.append(node.name)
            self.assertIsNotNone(ast.get_docstring(tree), path.name)
            self.assertEqual(len(bound), len(set(bound)), path.name)

    def test_imports_are_from_the_file_that_defines_the_name(self):
        for path, tree in self.trees():
            for node in tree.body:
                if isinstance(node, ast.ImportFrom):
                    self.assertEqual(node.level, 0, path.name)
                    self.assertRegex(node.module, r"\Afewfind\.[a-z]+\Z", path.name)
                    source = (PACKAGE / (node.module.split(".")[1] + ".py")).read_text(encoding="utf-8")
                    for alias in node.names:
                        self.assertIsNone(alias.asname, path.name)
                        self.assertRegex(source, rf"(?m)^(def |class )?{alias.name}( =|\(|:)", path.name)

    def test_functions(self):
        for at, node in self.nodes():
            if isinstance(node, ast.FunctionDef):
                self.assertLessEqual(node.end_lineno - node.lineno + 1, 40, at)
                self.assertEqual(node.decorator_list, [], at)
                given = node.args
                self.assertEqual((given.vararg, given.kwarg, given.kwonlyargs, given.posonlyargs), (None, None, [], []), at)

    def test_statements_and_expressions(self):
        for at, node in self.nodes():
            self.assertNotIsInstance(node, FORBIDDEN_NODES, at)
            if isinstance(node, (ast.For, ast.While)):
                self.assertEqual(node.orelse, [], at)
            elif isinstance(node, ast.Try):
                self.assertEqual(node.finalbody, [], at)
            elif isinstance(node, ast.Assign):
                self.assertEqual(len(node.targets), 1, at)
            elif isinstance(node, ast.ListComp):
                self.assertEqual(len(node.generators), 1, at)
                self.assertLessEqual(len(node.generators[0].ifs), 1, at)
            elif isinstance(node, ast.Constant):
                self.assertIsInstance(node.value, (int, str, type(None)), at)
            elif isinstance(node, ast.Compare) and any(isinstance(op, (ast.Is, ast.IsNot)) for op in node.ops):
                self.assertIsInstance(node.comparators[0], ast.Constant, at)

    def test_names(self):
        for at, node in self.nodes():
            if isinstance(node, ast.Name):
                self.assertRegex(node.id, r"\A[A-Za-z][A-Za-z0-9_]*\Z", at)
                if hasattr(builtins, node.id):
                    self.assertIn(node.id, BUILTINS, at)
                    self.assertIsInstance(node.ctx, ast.Load, at)
            elif isinstance(node, ast.arg):
                self.assertFalse(hasattr(builtins, node.arg), at)
            elif isinstance(node, ast.Attribute) and node.attr in PYTHONS_OWN:
                self.assertIn(node.attr, METHODS | {"__init__", "add", "discard"}, at)

    def test_methods_and_values_of_objects(self):
        methods = set()
        values = set()
        for at, node in self.nodes():
            if isinstance(node, ast.ClassDef):
                self.assertLessEqual(len(node.bases), 1, at)
                for part in node.body:
                    self.assertIsInstance(part, (ast.FunctionDef, ast.Pass), at)
                own = [part.name for part in node.body if isinstance(part, ast.FunctionDef)]
                self.assertEqual(len(own), len(set(own)), at)
                methods |= set(own)
            elif isinstance(node, ast.Attribute) and isinstance(node.ctx, ast.Store):
                self.assertIsInstance(node.value, ast.Name, at)
                values.add(node.attr)
        self.assertEqual(methods & values, set())
        self.assertEqual(values & PYTHONS_OWN, set())
        self.assertLessEqual(methods & PYTHONS_OWN, METHODS | {"__init__", "add", "discard"})

    def test_locals_are_not_called_like_imports_or_classes(self):
        for path, tree in self.trees():
            taken = {alias.name for node in tree.body if isinstance(node, ast.ImportFrom) for alias in node.names}
            taken |= {node.name for node in tree.body if isinstance(node, ast.ClassDef)}
            for node in ast.walk(tree):
                if isinstance(node, ast.arg):
                    self.assertNotIn(node.arg, taken, path.name)
                elif isinstance(node, ast.Name) and isinstance(node.ctx, ast.Store):
                    self.assertNotIn(node.id, taken, path.name)

    def test_walked_on_the_spot(self):
        for at, node in self.nodes():
            if isinstance(node, (ast.Assign, ast.Return)) and isinstance(node.value, ast.Call):
                called = node.value.func
                name = called.id if isinstance(called, ast.Name) else called.attr
                self.assertNotIn(name, {"zip", "enumerate", "reversed", "range", "items", "keys", "values", "set"}, at)


if __name__ == "__main__":
    unittest.main()
