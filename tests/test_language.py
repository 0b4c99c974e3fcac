"""Looks at the package's own files: the rules of their language that can be seen mechanically."""
import ast
import builtins
import pathlib
import re
import unittest

PACKAGE = pathlib.Path(__file__).resolve().parent.parent / "hallclock"

OWN_NAMES = (
    "len range enumerate zip min max sum abs sorted reversed int str bool list tuple dict set frozenset isinstance "
    "ord repr any all divmod Exception ValueError TypeError KeyError IndexError LookupError ZeroDivisionError "
    "ArithmeticError OverflowError RuntimeError NotImplementedError AttributeError StopIteration"
).split()
OWN_METHODS = (
    "append clear copy count endswith extend find get index insert isalnum isalpha isdigit islower isspace isupper "
    "items join keys ljust lower lstrip partition pop remove replace reverse rfind rjust rpartition rsplit rstrip "
    "setdefault split splitlines startswith strip update upper values zfill bit_length __init__"
).split()
SPECIAL = ("__init__", "__eq__", "__repr__", "__str__", "__len__")
BANNED_WORDS = re.compile(
    r"\b(type|typing|typing_extensions|enum|Enum|IntEnum|StrEnum|Flag|IntFlag|Generic|Protocol|ABC|ABCMeta|"
    r"namedtuple|NamedTuple|TypedDict|TYPE_CHECKING|abstractmethod)\b|dataclass|overload|contextmanager"
)
BANNED_NODES = (
    ast.With, ast.Match, ast.Delete, ast.Global, ast.Nonlocal, ast.Assert, ast.Yield, ast.YieldFrom, ast.Await,
    ast.AsyncFunctionDef, ast.AsyncFor, ast.AsyncWith, ast.Import, ast.GeneratorExp, ast.SetComp, ast.DictComp,
    ast.NamedExpr, ast.Starred, ast.Div, ast.AnnAssign,
)


class LanguageTest(unittest.TestCase):
    def setUp(self):
        self.files = sorted(PACKAGE.glob("*.py"))
        self.trees = {file: ast.parse(file.read_text("utf-8")) for file in self.files}

    def nodes(self):
        for file, tree in self.trees.items():
            for node in ast.walk(tree):
                yield f"{file.name}:{getattr(node, 'lineno', 0)}", node

    def test_the_folder_holds_plain_files_alone(self):
        for path in PACKAGE.iterdir():
            if path.name != "__pycache__":
                self.assertRegex(path.name, r"^([a-z][a-z0-9_]*|__init__|__main__)\.py$")

    def test_sizes_and_signs(self):
        for file in self.files:
            text = file.read_bytes().decode("ascii")
            self.assertLessEqual(len(text.split("\n")), 400, file.name)
            for place, line in enumerate(text.split("\n"), start=1):
                self.assertRegex(line, r"^[ -~]{0,120}$", f"{file.name}:{place}")
                self.assertIsNone(BANNED_WORDS.search(line), f"{file.name}:{place}")

    def test_functions_are_short_and_plain(self):
        for place, node in self.nodes():
            if isinstance(node, ast.FunctionDef):
                self.assertLessEqual(node.end_lineno - node.lineno + 1, 40, place)
                self.assertEqual(node.decorator_list, [], place)
                given = node.args
                self.assertEqual((given.vararg, given.kwarg, given.kwonlyargs), (None, None, []), place)
                self.assertTrue(node.name in SPECIAL or not node.name.startswith("_"), place)

    def test_statements_and_expressions(self):
        for place, node in self.nodes():
            self.assertNotIsInstance(node, BANNED_NODES, place)
            if isinstance(node, ast.Assign):
                self.assertEqual(len(node.targets), 1, place)
                self.assertNotIsInstance(node.targets[0], (ast.Tuple, ast.List), place)
            if isinstance(node, (ast.For, ast.While)):
                self.assertEqual(node.orelse, [], place)
            if isinstance(node, ast.Try):
                self.assertEqual(node.finalbody, [], place)
            if isinstance(node, ast.ListComp):
                self.assertEqual(len(node.generators), 1, place)
                self.assertLessEqual(len(node.generators[0].ifs), 1, place)
            if isinstance(node, ast.Constant):
                self.assertNotIsInstance(node.value, (float, bytes, complex), place)
                self.assertFalse(isinstance(node.value, str) and "%" in node.value, place)
            if isinstance(node, ast.Compare) and isinstance(node.ops[0], (ast.Is, ast.IsNot)):
                self.assertIsInstance(node.comparators[0], ast.Constant, place)

    def test_names(self):
        for place, node in self.nodes():
            named = node.id if isinstance(node, ast.Name) else node.arg if isinstance(node, ast.arg) else None
            if named is None:
                continue
            self.assertFalse(named.startswith("_"), place)
            if hasattr(builtins, named):
                self.assertIn(named, OWN_NAMES, place)
                self.assertFalse(isinstance(node, ast.arg) or isinstance(node.ctx, ast.Store), place)

    def test_imports_are_of_the_package_and_make_no_ring(self):
        drawn = {file.stem: [] for file in self.files}
        for file, tree in self.trees.items():
            for node in ast.walk(tree):
                if isinstance(node, ast.ImportFrom):
                    self.assertIn(node, tree.body, file.name)
                    self.assertEqual(node.level, 0, file.name)
                    self.assertRegex(node.module, r"^hallclock\.[a-z_]+$", file.name)
                    drawn[file.stem].append(node.module.split(".")[1])
        while drawn:
            free = [name for name in drawn if not any(other in drawn for other in drawn[name])]
            self.assertNotEqual(free, [], drawn)
            drawn = {name: drawn[name] for name in drawn if name not in free}

    def test_methods_and_values_are_told_apart(self):
        methods, values = set(), set()
        for _, node in self.nodes():
            if isinstance(node, ast.ClassDef):
                self.assertLessEqual(len(node.bases), 1, node.name)
                for part in node.body:
                    self.assertIsInstance(part, (ast.FunctionDef, ast.Pass), node.name)
                found = [part.name for part in node.body if isinstance(part, ast.FunctionDef)]
                self.assertEqual(len(found), len(set(found)), node.name)
                methods.update(found)
            if isinstance(node, ast.Attribute) and isinstance(node.ctx, ast.Store):
                values.add(node.attr)
        self.assertEqual(methods & values, set())
        for place, node in self.nodes():
            if isinstance(node, ast.Attribute):
                self.assertTrue(node.attr in methods | values or node.attr in OWN_METHODS, f"{place} {node.attr}")

    def test_methods_and_values_are_not_called_like_pythons_own(self):
        taken = {name for kind in (str, int, list, tuple, dict, set, bytes) for name in dir(kind)} - set(SPECIAL)
        for place, node in self.nodes():
            if isinstance(node, ast.ClassDef):
                self.assertEqual([part.name for part in node.body if getattr(part, "name", None) in taken], [], place)
            if isinstance(node, ast.Attribute) and isinstance(node.ctx, ast.Store):
                self.assertNotIn(node.attr, taken, place)

    def test_what_a_loop_walks_is_not_changed_in_it(self):
        changing = ("append", "clear", "extend", "insert", "pop", "remove", "reverse", "setdefault", "update")
        for place, node in self.nodes():
            if not isinstance(node, ast.For):
                continue
            walked = ast.unparse(node.iter)
            for part in ast.walk(ast.Module(node.body, [])):
                if isinstance(part, ast.Call) and isinstance(part.func, ast.Attribute) and part.func.attr in changing:
                    self.assertNotEqual(ast.unparse(part.func.value), walked, place)
                if isinstance(part, ast.Subscript) and isinstance(part.ctx, ast.Store):
                    self.assertNotEqual(ast.unparse(part.value), walked, place)

    def test_the_top_of_a_file_holds_plain_things(self):
        plain = (ast.Constant, ast.Tuple, ast.List, ast.Dict, ast.Load, ast.UnaryOp, ast.USub)
        for file, tree in self.trees.items():
            bound = []
            for part in tree.body:
                place = f"{file.name}:{part.lineno}"
                if isinstance(part, ast.Assign):
                    bound.append(part.targets[0].id)
                    for node in ast.walk(part.value):
                        self.assertIsInstance(node, plain, place)
                elif isinstance(part, (ast.FunctionDef, ast.ClassDef)):
                    bound.append(part.name)
                elif isinstance(part, ast.ImportFrom):
                    bound.extend(name.asname or name.name for name in part.names)
                else:
                    self.assertIsInstance(part, ast.Expr, place)
                    self.assertIsInstance(part.value, ast.Constant, place)
            self.assertEqual(len(bound), len(set(bound)), file.name)

    def test_no_local_is_called_like_an_import_or_a_class(self):
        for file, tree in self.trees.items():
            taken = {name.name for part in tree.body if isinstance(part, ast.ImportFrom) for name in part.names}
            taken |= {part.name for part in tree.body if isinstance(part, ast.ClassDef)}
            for node in ast.walk(tree):
                place = f"{file.name}:{getattr(node, 'lineno', 0)}"
                if isinstance(node, ast.arg):
                    self.assertNotIn(node.arg, taken, place)
                if isinstance(node, ast.Name) and isinstance(node.ctx, ast.Store):
                    self.assertNotIn(node.id, taken, place)

    def test_every_import_is_used(self):
        for file, tree in self.trees.items():
            used = {node.id for node in ast.walk(tree) if isinstance(node, ast.Name)}
            for part in tree.body:
                if isinstance(part, ast.ImportFrom):
                    for name in part.names:
                        self.assertIn(name.name, used, file.name)

    def test_values_are_given_through_a_local_name(self):
        for place, node in self.nodes():
            if isinstance(node, ast.Attribute) and isinstance(node.ctx, ast.Store):
                self.assertIsInstance(node.value, ast.Name, place)

    def test_calls(self):
        keywords = {"sorted": ("key", "reverse"), "min": ("key", "default"), "max": ("key", "default"),
                    "sum": ("start",), "enumerate": ("start",), "zip": ("strict",)}
        for place, node in self.nodes():
            if isinstance(node, ast.Call):
                name = node.func.id if isinstance(node.func, ast.Name) else None
                for keyword in node.keywords:
                    self.assertIn(keyword.arg, keywords.get(name, ()), place)

    def test_errors_are_taken_by_name(self):
        own = [node.name for node in ast.walk(self.trees[PACKAGE / "errors.py"]) if isinstance(node, ast.ClassDef)]
        for place, node in self.nodes():
            if isinstance(node, ast.ExceptHandler):
                self.assertIsInstance(node.type, ast.Name, place)
                self.assertIn(node.type.id, own + ["KeyError", "ZeroDivisionError"], place)
            if isinstance(node, ast.FormattedValue):
                self.assertIsInstance(node.value, ast.Name, place)
                self.assertIsNone(node.format_spec, place)

    def test_what_is_walked_is_walked_on_the_spot(self):
        inside = ("list", "tuple", "dict", "sorted", "sum", "any", "all", "enumerate", "zip", "min", "max")
        for file, tree in self.trees.items():
            good = []
            for node in ast.walk(tree):
                if isinstance(node, (ast.For, ast.comprehension)):
                    good.append(node.iter)
                if isinstance(node, ast.Call) and isinstance(node.func, ast.Name) and node.func.id in inside:
                    good.extend(node.args if node.func.id == "zip" else node.args[:1])
            for node in ast.walk(tree):
                if not isinstance(node, ast.Call):
                    continue
                name = node.func.id if isinstance(node.func, ast.Name) else getattr(node.func, "attr", None)
                if name in ("zip", "enumerate", "reversed", "range", "items", "keys", "values"):
                    self.assertIn(node, good, f"{file.name}:{node.lineno}")

    def test_sets_are_not_kept(self):
        for file, tree in self.trees.items():
            good = []
            for node in ast.walk(tree):
                if isinstance(node, ast.Compare):
                    good.extend([node.left] + node.comparators)
                if isinstance(node, ast.Call) and isinstance(node.func, ast.Name) and node.func.id in ("sorted", "len"):
                    good.extend(node.args)
            for node in ast.walk(tree):
                self.assertNotIsInstance(node, ast.Set, file.name)
                if isinstance(node, ast.Call) and isinstance(node.func, ast.Name) and node.func.id == "set":
                    self.assertIn(node, good, f"{file.name}:{node.lineno}")


if __name__ == "__main__":
    unittest.main()
