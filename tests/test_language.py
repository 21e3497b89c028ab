"""The package's own files keep to ../shared/LANGUAGE.md, as far as a walk through their syntax can see it."""

import ast
import builtins
import keyword
import pathlib
import re
import unittest

FOLDER = pathlib.Path(__file__).resolve().parent.parent / "provedhints"

STATEMENTS = (ast.Assign, ast.AugAssign, ast.If, ast.While, ast.For, ast.Return, ast.Break, ast.Continue, ast.Pass,
              ast.Raise, ast.Try, ast.ExceptHandler, ast.Expr, ast.FunctionDef, ast.ClassDef, ast.ImportFrom)
EXPRESSIONS = (ast.Constant, ast.Name, ast.Attribute, ast.Subscript, ast.Slice, ast.List, ast.Tuple, ast.Dict, ast.Call,
               ast.BinOp, ast.UnaryOp, ast.BoolOp, ast.Compare, ast.IfExp, ast.ListComp, ast.JoinedStr,
               ast.FormattedValue, ast.Lambda)
BESIDE = (ast.Module, ast.arguments, ast.arg, ast.alias, ast.comprehension, ast.keyword, ast.expr_context, ast.boolop,
          ast.unaryop, ast.cmpop, ast.operator)
OWN_NAMES = set("""len range enumerate zip min max sum abs sorted reversed int str bool list tuple dict set frozenset
    isinstance ord repr any all divmod Exception ValueError TypeError KeyError IndexError LookupError ZeroDivisionError
    ArithmeticError OverflowError RuntimeError NotImplementedError AttributeError StopIteration True False None""".split())
METHODS = set("""append clear copy count endswith extend find get index insert isalnum isalpha isdigit islower isspace
    isupper items join keys ljust lower lstrip partition pop remove replace reverse rfind rjust rpartition rsplit rstrip
    setdefault split splitlines startswith strip update upper values zfill bit_length""".split())
TAKEN = {name for kind in (str, int, list, dict, set, bytes, float, tuple) for name in dir(kind)}
WORDS = re.compile(r"\b(type|typing|typing_extensions|enum|Enum|IntEnum|StrEnum|Flag|IntFlag|Generic|Protocol|ABC|ABCMeta"
                   r"|namedtuple|NamedTuple|TypedDict|TYPE_CHECKING|abstractmethod)\b|dataclass|overload|contextmanager")


def files():
    return sorted(FOLDER.glob("*.py"))


def trees():
    return [(path, ast.parse(path.read_text())) for path in files()]


def nodes(kind):
    return [(path, node) for path, tree in trees() for node in ast.walk(tree) if isinstance(node, kind)]


def methods_and_values():
    methods = {node.name for path, top in nodes(ast.ClassDef) for node in top.body if isinstance(node, ast.FunctionDef)}
    values = {node.attr for path, node in nodes(ast.Attribute) if isinstance(node.ctx, ast.Store)}
    return methods, values


class Language(unittest.TestCase):
    def test_nothing_else_lies_in_the_package(self):
        there = [path.name for path in FOLDER.iterdir() if path.name != "__pycache__"]
        self.assertEqual(sorted(there), [path.name for path in files()])
        self.assertIn("__init__.py", there)
        for name in there:
            self.assertRegex(name, r"^([a-z][a-z0-9_]*|__init__)\.py$")
            stem = name[:-3].strip("_")
            self.assertFalse(hasattr(builtins, stem) or keyword.iskeyword(stem) or stem.startswith("test"), name)

    def test_signs_sizes_and_words(self):
        for path in files():
            text = path.read_bytes().decode("ascii")
            self.assertRegex(text, r"^[ -~\n]*$", path)
            rows = text.split("\n")
            self.assertLessEqual(len(rows), 400, path)
            self.assertLessEqual(max(len(row) for row in rows), 120, path)
            self.assertIsNone(WORDS.search(text), path)

    def test_functions_are_short_and_plain(self):
        for path, node in nodes(ast.FunctionDef):
            self.assertLessEqual(node.end_lineno - node.lineno + 1, 40, (path, node.name))
            given = node.args
            self.assertFalse(given.vararg or given.kwarg or given.kwonlyargs or given.posonlyargs or node.decorator_list)
            self.assertTrue(node.returns is None and all(arg.annotation is None for arg in given.args))

    def test_kinds_of_syntax(self):
        for path, tree in trees():
            for node in ast.walk(tree):
                self.assertIsInstance(node, STATEMENTS + EXPRESSIONS + BESIDE, (path, getattr(node, "lineno", 0)))
                self.assertNotIsInstance(node, (ast.Div, ast.MatMult))
                if isinstance(node, (ast.For, ast.While)):
                    self.assertEqual(node.orelse, [], (path, node.lineno))
                if isinstance(node, ast.Assign):
                    self.assertEqual(len(node.targets), 1, (path, node.lineno))
                    self.assertNotIsInstance(node.targets[0], (ast.Tuple, ast.List), (path, node.lineno))
                if isinstance(node, ast.ListComp):
                    self.assertTrue(len(node.generators) == 1 and len(node.generators[0].ifs) <= 1, (path, node.lineno))
                if isinstance(node, ast.Constant):
                    self.assertIn(type(node.value), (int, str, bool, type(None)), (path, node.lineno))

    def test_only_a_call_stands_by_itself_but_for_the_docstring_of_a_file(self):
        for path, tree in trees():
            self.assertTrue(ast.get_docstring(tree), path)
            for node in ast.walk(tree):
                if isinstance(node, ast.Expr) and node is not tree.body[0]:
                    self.assertIsInstance(node.value, ast.Call, (path, node.lineno))

    def test_the_top_of_a_file(self):
        for path, tree in trees():
            bound = []
            for node in tree.body[1:]:
                self.assertIsInstance(node, (ast.ImportFrom, ast.Assign, ast.FunctionDef, ast.ClassDef), path)
                if isinstance(node, ast.Assign):
                    ast.literal_eval(node.value)
                    bound.append(node.targets[0].id)
                elif isinstance(node, ast.ImportFrom):
                    bound += [alias.name for alias in node.names]
                else:
                    bound.append(node.name)
            self.assertEqual(len(bound), len(set(bound)), path)

    def test_imports(self):
        drawn = {}
        for path, tree in trees():
            drawn[path.stem] = []
            for node in tree.body:
                if isinstance(node, ast.ImportFrom):
                    self.assertRegex(node.module, r"^provedhints\.[a-z_]+$")
                    other = node.module.split(".")[1]
                    drawn[path.stem].append(other)
                    defined = dict(trees())[FOLDER / (other + ".py")].body
                    there = [getattr(n, "name", None) or (isinstance(n, ast.Assign) and n.targets[0].id) for n in defined]
                    for alias in node.names:
                        self.assertIn(alias.name, there)
                        self.assertIsNone(alias.asname)
        left = dict(drawn)
        while left:
            free = [stem for stem in left if not any(other in left for other in left[stem])]
            self.assertTrue(free, f"files draw from one another: {left}")
            for stem in free:
                left.pop(stem)
        self.assertEqual(drawn["__init__"], [])

    def test_names(self):
        for path, tree in trees():
            for node in ast.walk(tree):
                bound = None
                if isinstance(node, ast.Name):
                    if isinstance(node.ctx, ast.Store):
                        bound = node.id
                    elif hasattr(builtins, node.id):
                        self.assertIn(node.id, OWN_NAMES, (path, node.lineno))
                elif isinstance(node, ast.arg):
                    bound = node.arg
                if bound is not None:
                    self.assertRegex(bound, r"^[A-Za-z][A-Za-z0-9_]*$", path)
                    self.assertFalse(hasattr(builtins, bound), (path, bound))

    def test_methods_and_values(self):
        methods, values = methods_and_values()
        self.assertEqual(methods & values, set())
        for name in (methods | values) - {"__init__"}:
            self.assertRegex(name, r"^[A-Za-z][A-Za-z0-9_]*$")
            self.assertNotIn(name, TAKEN)
        for path, node in nodes(ast.Attribute):
            self.assertIn(node.attr, methods | values | METHODS, (path, node.lineno))

    def test_classes(self):
        for path, node in nodes(ast.ClassDef):
            self.assertTrue(all(isinstance(part, ast.FunctionDef) for part in node.body), (path, node.name))
            names = [part.name for part in node.body]
            self.assertEqual(len(names), len(set(names)))
            self.assertFalse(node.bases or node.keywords or node.decorator_list)

    def test_is_stands_beside_none_and_truth_alone(self):
        for path, node in nodes(ast.Compare):
            for op, right in zip(node.ops, node.comparators):
                if isinstance(op, (ast.Is, ast.IsNot)):
                    self.assertIsInstance(right, ast.Constant, (path, node.lineno))


if __name__ == "__main__":
    unittest.main()
