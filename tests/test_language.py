"""The files of the package keep to the small language: what of its rules a look at the trees can tell."""

import ast
import builtins
import pathlib
import re
import unittest

PACKAGE = pathlib.Path(__file__).resolve().parent.parent / "alikechances"
FILES = sorted(PACKAGE.rglob("*.py"))
LIBRARY = {"math": {"gcd", "lcm", "isqrt", "comb", "perm", "factorial"}}
BUILTINS = {
    "len", "range", "enumerate", "zip", "min", "max", "sum", "abs", "sorted", "reversed", "int", "str", "bool",
    "list", "tuple", "dict", "set", "isinstance", "ord", "repr", "any", "all", "divmod",
    "ValueError", "KeyError", "NotImplemented", "TypeError",
}
METHODS = set(
    "append clear copy count endswith extend find get index insert isalnum isalpha isdigit islower isspace isupper "
    "items join keys ljust lower lstrip partition pop remove replace reverse rfind rjust rpartition rsplit rstrip "
    "setdefault split splitlines startswith strip update upper values zfill bit_length removeprefix removesuffix "
    "add discard __init__".split()
)
NODES = (
    ast.Module, ast.Expr, ast.Constant, ast.ImportFrom, ast.alias, ast.FunctionDef, ast.arguments, ast.arg,
    ast.ClassDef, ast.Return, ast.If, ast.For, ast.While, ast.Raise, ast.Assign, ast.AugAssign, ast.Delete,
    ast.Continue, ast.Break, ast.Pass, ast.Name, ast.Load, ast.Store, ast.Del, ast.Attribute, ast.Subscript,
    ast.Slice, ast.Tuple, ast.List, ast.Dict, ast.Call, ast.keyword, ast.Compare, ast.BoolOp, ast.BinOp,
    ast.UnaryOp, ast.IfExp, ast.ListComp, ast.DictComp, ast.comprehension, ast.JoinedStr, ast.FormattedValue,
    ast.Starred, ast.And, ast.Or, ast.Not, ast.USub, ast.Add, ast.Sub, ast.Mult, ast.FloorDiv, ast.Mod,
    ast.Eq, ast.NotEq, ast.Lt, ast.LtE, ast.Gt, ast.GtE, ast.In, ast.NotIn, ast.Is, ast.IsNot, ast.Try,
    ast.ExceptHandler, ast.Lambda,
)
BARRED = re.compile(
    r"\b(type|typing|typing_extensions|enum|Enum|IntEnum|StrEnum|Flag|IntFlag|Generic|Protocol|ABC|ABCMeta|namedtuple"
    r"|NamedTuple|TypedDict|TYPE_CHECKING|abstractmethod|Meta|_wall|_WallAttr)\b|dataclass|overload|contextmanager"
)
NEVER = {"register", "mro", "elements", "open", "input", "law", "version_info", "with_traceback", "add_note"}


def tree(path):
    return ast.parse(path.read_text())


def functions(path):
    return [node for node in ast.walk(tree(path)) if isinstance(node, ast.FunctionDef)]


def bound_names(function):
    names = [argument.arg for argument in function.args.args]
    return names + [node.id for node in ast.walk(function)
                    if isinstance(node, ast.Name) and isinstance(node.ctx, ast.Store)]


def imported(path):
    return [node.module for node in ast.walk(tree(path)) if isinstance(node, ast.ImportFrom)]


def own_methods():
    return {node.name for path in FILES for cls in ast.walk(tree(path)) if isinstance(cls, ast.ClassDef)
            for node in cls.body if isinstance(node, ast.FunctionDef)}


def is_starred(node):
    """Whether a star, or two, stand in a node itself: in a literal or a call."""
    if isinstance(node, ast.Dict):
        return None in node.keys
    return isinstance(node, ast.Starred) or (isinstance(node, ast.keyword) and node.arg is None)


def rows_with_starred_index(text):
    """The rows of a text in which a star stands within the brackets of an index, at any depth."""
    indexes = [node.slice for node in ast.walk(ast.parse(text)) if isinstance(node, ast.Subscript)]
    return sorted({part.lineno for index in indexes for part in ast.walk(index) if is_starred(part)})


class LanguageTest(unittest.TestCase):
    def each(self):
        for path in FILES:
            with self.subTest(path.name):
                yield path

    def test_folder_holds_python_files_alone(self):
        for path in PACKAGE.rglob("*"):
            if "__pycache__" not in path.parts:
                self.assertTrue(path.suffix == ".py" and re.fullmatch("[a-z0-9_]+", path.stem), path)

    def test_sizes_and_signs(self):
        for path in self.each():
            lines = path.read_text().split("\n")
            self.assertLessEqual(len(lines) - 1, 399)
            self.assertTrue(all(len(line) <= 120 for line in lines))
            self.assertRegex(path.read_text(), r"\A[ -~\n]*\Z")
            for node in functions(path):
                self.assertLessEqual(node.end_lineno - node.lineno + 1, 40, node.name)

    def test_nodes(self):
        for path in self.each():
            for node in ast.walk(tree(path)):
                self.assertIsInstance(node, NODES, getattr(node, "lineno", None))
                if isinstance(node, ast.Constant):
                    self.assertIn(type(node.value), (int, str, bool, type(None)))
                if isinstance(node, (ast.FunctionDef, ast.ClassDef)):
                    self.assertEqual(node.decorator_list, [])

    def test_module_level(self):
        for path in self.each():
            names = []
            for at, node in enumerate(tree(path).body):
                if isinstance(node, ast.Expr):
                    self.assertTrue(at == 0 and isinstance(node.value, ast.Constant))
                elif isinstance(node, ast.Assign):
                    self.assertEqual(len(node.targets), 1)
                    self.assertIsInstance(node.targets[0], ast.Name)
                    names.append(node.targets[0].id)
                    for part in ast.walk(node.value):
                        if isinstance(part, ast.Name) and isinstance(node.value, ast.Dict):
                            self.assertIn(part.id, [above.name for above in tree(path).body[:at]
                                                    if isinstance(above, ast.FunctionDef)])
                            continue
                        self.assertIsInstance(part, (ast.Constant, ast.Tuple, ast.List, ast.Dict, ast.Load))
                elif isinstance(node, ast.ImportFrom):
                    names.extend(alias.name for alias in node.names)
                else:
                    self.assertIsInstance(node, (ast.FunctionDef, ast.ClassDef))
                    names.append(node.name)
            self.assertEqual(len(names), len(set(names)))

    def test_imports(self):
        for path in self.each():
            for node in ast.walk(tree(path)):
                if isinstance(node, ast.ImportFrom):
                    names = {alias.name for alias in node.names}
                    self.assertTrue(all(alias.asname is None for alias in node.names))
                    if node.module in LIBRARY:
                        self.assertLessEqual(names, LIBRARY[node.module])
                        continue
                    source = PACKAGE / (node.module.removeprefix("alikechances.") + ".py")
                    told = {getattr(part, "name", None) for part in tree(source).body}
                    told |= {part.targets[0].id for part in tree(source).body if isinstance(part, ast.Assign)}
                    self.assertLessEqual(names, told)
                    used = {part.id for part in ast.walk(tree(path)) if isinstance(part, ast.Name)}
                    self.assertLessEqual(names, used)

    def test_no_two_files_import_from_each_other(self):
        graph = {"alikechances." + path.stem: imported(path) for path in FILES}
        while graph:
            free = [name for name, needs in graph.items() if not any(need in graph for need in needs)]
            self.assertTrue(free, graph)
            graph = {name: needs for name, needs in graph.items() if name not in free}

    def test_builtins_and_methods(self):
        methods = own_methods() | METHODS
        for path in self.each():
            for node in ast.walk(tree(path)):
                if isinstance(node, ast.Name) and hasattr(builtins, node.id):
                    self.assertIn(node.id, BUILTINS, node.lineno)
                if isinstance(node, ast.Call) and isinstance(node.func, ast.Attribute):
                    self.assertIn(node.func.attr, methods, node.lineno)
                if isinstance(node, ast.Call) and isinstance(node.func, ast.Name):
                    if hasattr(builtins, node.func.id):
                        self.assertEqual([k.arg for k in node.keywords if k.arg not in ("key", "start", "reverse")], [])

    def test_names(self):
        for path in self.each():
            top = {alias.name for node in ast.walk(tree(path)) if isinstance(node, ast.ImportFrom)
                   for alias in node.names}
            top |= {node.name for node in tree(path).body if isinstance(node, ast.ClassDef)}
            for function in functions(path):
                for name in bound_names(function):
                    self.assertNotIn(name, top, function.name)
                    self.assertFalse(hasattr(builtins, name) or name in NEVER, (function.name, name))
                    self.assertNotEqual(name, "vars")

    def test_no_star_within_an_index(self):
        found = [(path.name, row) for path in FILES for row in rows_with_starred_index(path.read_text())]
        self.assertEqual(found, [])

    def test_stars_within_an_index_are_found(self):
        for row in (
            "numbers[(*state[:place], value, *state[place + 1:])]", "numbers[*state, value]", "numbers[[*state]]",
            "numbers[(*state, 1)] = 2", "del numbers[(*state, 1)]", "numbers[(1, (*state,))][0]",
            "numbers[told(*state)]", "numbers[told(**named)]", "numbers[told({**named})]",
            "state[told(*state):]", "state[0, told(*state):]", "[numbers[(*state,)] for state in states]",
            "numbers[[*states][0]]",
        ):
            with self.subTest(row):
                self.assertEqual(rows_with_starred_index(f"x = 1\n{row}\n"), [2])
        self.assertEqual(rows_with_starred_index("numbers[\n    (\n        *state,\n    )\n]\n"), [3])

    def test_stars_outside_an_index_are_let_by(self):
        for row in (
            "(*state[:place], value, *state[place + 1:])", "(*state, 1)[0]", "[*states][0]", "told(*states[0])",
            "told(*states)[0]", "told(**named[0])", "{**named, 'a': state[0]}", "numbers[place * 2]",
            "numbers[place ** 2]", "first, *rest = states[0]",
        ):
            with self.subTest(row):
                self.assertEqual(rows_with_starred_index(row), [])

    def test_sets_are_sorted_or_measured_at_once(self):
        for path in self.each():
            for node in ast.walk(tree(path)):
                for child in ast.iter_child_nodes(node):
                    if isinstance(child, ast.Call) and getattr(child.func, "id", None) == "set":
                        self.assertIn(getattr(getattr(node, "func", None), "id", None), ("sorted", "len"))

    def test_double_underscore_methods(self):
        for path in self.each():
            for kind in (node for node in ast.walk(tree(path)) if isinstance(node, ast.ClassDef)):
                methods = {node.name: node for node in kind.body if isinstance(node, ast.FunctionDef)}
                told = {name for name in methods if name.startswith("__")}
                self.assertLessEqual(told, {"__init__", "__eq__", "__len__", "__getitem__", "__iter__"})
                if "__getitem__" in told:
                    self.assertIsInstance(methods["__iter__"].body[0], ast.Raise)
                for name in told - {"__init__", "__iter__"}:
                    changes = [node for node in ast.walk(methods[name])
                               if isinstance(node, (ast.Assign, ast.AugAssign, ast.Delete, ast.NamedExpr))]
                    self.assertEqual(changes, [], name)

    def test_strings_and_words(self):
        for path in self.each():
            words = re.sub(r'"""(.|\n)*?"""|#.*', "", path.read_text())
            self.assertIsNone(BARRED.search(words))
            for node in ast.walk(tree(path)):
                if isinstance(node, ast.Constant) and isinstance(node.value, str):
                    self.assertFalse(node.value.startswith("__"))
            self.assertNotRegex(words, r'"[^"\n]*%[^"\n]*"')


if __name__ == "__main__":
    unittest.main()
