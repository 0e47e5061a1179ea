"""The rules of ../shared/LANGUAGE.md that can be seen in one file of the package at a time.

The tests look for the plain breaches of a rule; that they pass does not mean that each rule is kept.
"""

import ast
import builtins
import re
import unittest
from pathlib import Path

from tests.plain_names import barred_in, is_barred

PACKAGE = Path(__file__).resolve().parent.parent / "livingroll"

BUILTINS = set(
    "len range enumerate zip min max sum abs sorted reversed int str bool bytes list tuple dict set frozenset isinstance "
    "ord repr any all divmod pow getattr hasattr setattr iter next map super Exception ValueError TypeError KeyError "
    "IndexError LookupError ZeroDivisionError ArithmeticError OverflowError RuntimeError NotImplementedError "
    "AttributeError StopIteration NotImplemented property staticmethod classmethod".split()
)
DOUBLE = set(
    "init eq repr str len enter exit call iter lt le gt ge ne add sub mul floordiv mod pow and or xor contains getitem "
    "setitem neg pos invert abs bool".split()
)
METHODS = set(
    "append clear copy count endswith extend find get index insert isalnum isalpha isdigit islower isspace isupper items "
    "join keys ljust lower lstrip partition pop remove replace reverse rfind rjust rpartition rsplit rstrip setdefault "
    "split splitlines startswith strip update upper values zfill bit_length isascii add discard".split()
)
LIBRARY = {"heapq", "math", "itertools", "collections"}
WORDS = re.compile(
    r"\b(type|typing|enum|Enum|Generic|Protocol|ABC|namedtuple|NamedTuple|TypedDict|abstractmethod|register|mro|elements|"
    r"open|input|law|global|async|await|chr|eval|exec|id|vars|dir|globals|locals|compile|print)\b"
)


def files():
    return sorted(PACKAGE.rglob("*.py"))


def trees():
    return [(path, ast.parse(path.read_text(encoding="utf-8"))) for path in files()]


def nodes(kind):
    """All nodes of a kind in the package, each with its place for messages."""
    return [
        (node, f"{path.name}:{getattr(node, 'lineno', 0)}")
        for path, tree in trees()
        for node in ast.walk(tree)
        if isinstance(node, kind)
    ]


def last_word(decorator):
    """The name of a decorator, or the last one of a dotted name."""
    return getattr(decorator, "attr", getattr(decorator, "id", ""))


def without_texts(path):
    """The text of a file without its comments and strings."""
    text = re.sub(r'"""(.|\n)*?"""', "", path.read_text(encoding="utf-8"))
    return re.sub(r"#.*", "", re.sub(r'"(\\.|[^"\\\n])*"', '""', text))


def bound_names(function):
    """The parameters and local variables of a function."""
    given = function.args
    names = [arg.arg for arg in (*given.posonlyargs, *given.args, *given.kwonlyargs)]
    names += [arg.arg for arg in (given.vararg, given.kwarg) if arg]
    names += [node.id for node in ast.walk(function) if isinstance(node, ast.Name) and isinstance(node.ctx, ast.Store)]
    return set(names)


class Files(unittest.TestCase):
    def test_names_and_characters(self):
        found = [path for path in PACKAGE.rglob("*") if "__pycache__" not in path.parts]
        for path in found:
            with self.subTest(path=path.name):
                self.assertRegex(path.name, r"^(__init__|__main__|[a-z][a-z0-9_]*)\.py$")
                self.assertRegex(path.read_text(encoding="utf-8"), r"\A[ -~\n]*\Z")

    def test_sizes(self):
        for path in files():
            lines = path.read_text(encoding="utf-8").split("\n")
            self.assertLess(len(lines), 400, path.name)
            self.assertLessEqual(max(len(line) for line in lines), 120, path.name)
        for node, place in nodes(ast.FunctionDef):
            self.assertLessEqual(node.end_lineno - node.lineno + 1, 40, place)

    def test_barred_words(self):
        for path in files():
            self.assertIsNone(WORDS.search(without_texts(path)), path.name)

    def test_imports_stand_on_top_and_name_files_of_the_package(self):
        reached = {}
        for path, tree in trees():
            kinds = [isinstance(node, ast.ImportFrom) for node in tree.body]
            self.assertEqual(sorted(kinds[1:], reverse=True), kinds[1:], path.name)
            sources = [node.module for node in ast.walk(tree) if isinstance(node, ast.ImportFrom)]
            for source in sources:
                if source not in LIBRARY:
                    self.assertTrue((PACKAGE.parent / (source.replace(".", "/") + ".py")).is_file(), path.name)
            reached["livingroll." + path.stem] = sources
        self.assertEqual([], nodes(ast.Import))
        self.assert_no_circle(reached)

    def assert_no_circle(self, reached):
        left = dict(reached)
        while left:
            free = [name for name, sources in left.items() if not set(sources) & set(left)]
            self.assertTrue(free, f"these import each other: {sorted(left)}")
            left = {name: sources for name, sources in left.items() if name not in free}


class Statements(unittest.TestCase):
    def test_module_level(self):
        for path, tree in trees():
            for node in tree.body[1:]:
                kinds = (ast.ImportFrom, ast.FunctionDef, ast.ClassDef, ast.Assign)
                self.assertIsInstance(node, kinds, f"{path.name}:{node.lineno}")

    def test_barred_statements_and_expressions(self):
        barred = (ast.Global, ast.AsyncFunctionDef, ast.Await, ast.Div, ast.GeneratorExp, ast.TryStar)
        for kind in barred:
            self.assertEqual([], [place for _, place in nodes(kind)], kind.__name__)

    def test_constants(self):
        for node, place in nodes(ast.Constant):
            self.assertNotIsInstance(node.value, (float, complex), place)
            if isinstance(node.value, str):
                self.assertNotIn("%", node.value, place)

    def test_exponents_are_literals(self):
        for node, place in nodes(ast.BinOp):
            if isinstance(node.op, ast.Pow):
                self.assertIsInstance(node.right, ast.Constant, place)
                self.assertIn(node.right.value, range(65), place)

    def test_is_stands_beside_none_true_and_false(self):
        for node, place in nodes(ast.Compare):
            if any(isinstance(op, (ast.Is, ast.IsNot)) for op in node.ops):
                self.assertIsInstance(node.comparators[0], ast.Constant, place)

    def test_handlers_name_own_errors_or_key_error(self):
        own = {node.name for node, _ in nodes(ast.ClassDef)} | {"KeyError", "ZeroDivisionError"}
        for node, place in nodes(ast.ExceptHandler):
            caught = node.type.elts if isinstance(node.type, ast.Tuple) else [node.type]
            self.assertLessEqual({name.id for name in caught}, own, place)


    def test_starred_arguments_are_names_and_attributes(self):
        for node, place in nodes(ast.Call):
            for arg in node.args:
                if isinstance(arg, ast.Starred):
                    self.assertRegex(ast.unparse(arg.value), r"^\w+(\.\w+)?$", place)
            self.assertNotIn(None, [keyword.arg for keyword in node.keywords], place)

    def test_sets_stand_in_sorted_and_len_and_behind_in(self):
        for path, tree in trees():
            walked = list(ast.walk(tree))
            calls = [node for node in walked if isinstance(node, ast.Call)]
            free = [arg for node in calls if ast.unparse(node.func) in ("sorted", "len") for arg in node.args]
            free += [side for node in walked if isinstance(node, ast.Compare) for side in node.comparators]
            sets = [node for node in walked if isinstance(node, (ast.Set, ast.SetComp))]
            for node in sets + [node for node in calls if ast.unparse(node.func) == "set"]:
                self.assertTrue(any(node is other for other in free), f"{path.name}:{node.lineno}")

    def test_what_a_loop_goes_over_is_not_changed_in_it(self):
        for node, place in nodes(ast.For):
            told = ast.unparse(node.iter)
            for other in ast.walk(node):
                if isinstance(other, ast.Call) and getattr(other.func, "attr", "") in MODIFYING:
                    self.assertNotEqual(told, ast.unparse(other.func.value), place)
                if isinstance(other, ast.Subscript) and not isinstance(other.ctx, ast.Load):
                    self.assertNotEqual(told, ast.unparse(other.value), place)

    def test_the_rows_of_exit(self):
        found = [node for node, _ in nodes(ast.FunctionDef) if node.name == "__exit__"]
        self.assertEqual(1, len(found))
        for row in [row for node in found for row in node.body]:
            self.assertIsInstance(row, ast.Assign)
            for side in (*row.targets, row.value):
                self.assertRegex(ast.unparse(side), r"^\w+(\.\w+)*$")
            self.assertRegex(ast.unparse(row.targets[0]), r"^\w+(\.\w+)?$")


class Names(unittest.TestCase):
    def test_double_underscores(self):
        for node, place in nodes(ast.FunctionDef):
            if node.name.startswith("__"):
                self.assertIn(node.name.strip("_"), DOUBLE, place)

    def test_decorators(self):
        for node, place in nodes((ast.FunctionDef, ast.ClassDef)):
            for decorator in node.decorator_list:
                self.assertRegex(ast.unparse(decorator), r"^(property|staticmethod|classmethod|\w+\.setter)$", place)

    def test_builtins(self):
        barred = set(dir(builtins)) - BUILTINS
        for node, place in nodes(ast.Name):
            self.assertNotIn(node.id, barred, place)

    def test_names_of_parameters_and_variables(self):
        for path, tree in trees():
            taken = {alias.name for node in tree.body if isinstance(node, ast.ImportFrom) for alias in node.names}
            taken |= {node.name for node in tree.body if isinstance(node, ast.ClassDef)} | set(dir(builtins))
            for node in ast.walk(tree):
                if isinstance(node, ast.FunctionDef):
                    self.assertEqual(set(), bound_names(node) & taken, f"{path.name}:{node.lineno}")

    def test_methods_that_are_called(self):
        own = {node.name for node, _ in nodes(ast.FunctionDef)}
        for node, place in nodes(ast.Call):
            if isinstance(node.func, ast.Attribute):
                self.assertIn(node.func.attr, METHODS | own, place)

    def test_no_name_is_a_method_and_an_attribute(self):
        # A property with a setter is stored by its name, and that name is no method.
        setters = {node.name for node, _ in nodes(ast.FunctionDef) if "setter" in map(last_word, node.decorator_list)}
        methods = {node.name for node, _ in nodes(ast.FunctionDef)} - setters
        stored = {node.attr for node, _ in nodes(ast.Attribute) if isinstance(node.ctx, ast.Store)}
        self.assertEqual(set(), methods & stored)


# L12: the names that are barred, also with digits or underscores behind them.
BARRED_NAMES = ("_cold", "_tuplegetter", "_outside", "_record", "_written_out", "_member_names")
# Each place in which a name may stand, the name written as NAME.
PLACES = (
    "NAME = 1",
    "def NAME():\n    return 1",
    "def count(NAME, many=1):\n    return many",
    "def count(many, *, NAME=1):\n    return many",
    "def count(*NAME):\n    return 1",
    "def count(**NAME):\n    return 1",
    "def count():\n    NAME = 1",
    "def count():\n    return NAME",
    "def count(many):\n    many, *NAME = many",
    "def count(many):\n    return many(NAME=1)",
    "def count(many: NAME):\n    return many",
    "def count(many):\n    def NAME():\n        return many",
    "def count(many):\n    return lambda NAME: many",
    "def count(many):\n    return [1 for NAME in many]",
    "def count(many):\n    for _, NAME in many:\n        return 1",
    "def count(many):\n    if (NAME := many):\n        return 1",
    "def count(many):\n    with many() as NAME:\n        return 1",
    "def count(many):\n    try:\n        return 1\n    except KeyError as NAME:\n        return 2",
    "def count(many):\n    match many:\n        case [*NAME]:\n            return 1",
    "def count(many):\n    match many:\n        case 1 as NAME:\n            return 1",
    "def count(many):\n    match many:\n        case Box(NAME=1):\n            return 1",
    "def count(many):\n    return f'{NAME}'",
    "def count(many):\n    return getattr(many, 'NAME')",
    "def count(box):\n    return box.NAME[0]",
    "def count(box):\n    box.NAME = 1",
    "class NAME:\n    many = 1",
    "class Box(NAME):\n    many = 1",
    "class Box:\n    NAME = 1",
    "class Box:\n    __slots__ = ('NAME',)",
    "class Box:\n    def NAME(self):\n        return 1",
    "class Box:\n    @property\n    def NAME(self):\n        return 1",
    "class Box:\n    def __init__(self):\n        self.NAME = []",
    "from livingroll.NAME import many",
    "from livingroll.box import NAME",
    "from livingroll.box import many as NAME",
)


class PlainNames(unittest.TestCase):
    """L12, in the package and in texts that break it."""

    def found(self, name, place):
        """What is found with a name in a place."""
        return [word for _, word in barred_in(place.replace("NAME", name))]

    def test_the_package(self):
        for path in files():
            self.assertEqual([], barred_in(path.read_text(encoding="utf-8")), path.name)
            self.assertFalse(is_barred(path.stem), path.name)

    def test_barred_names_are_found_in_each_place(self):
        for name in BARRED_NAMES:
            for behind in ("", "_", "1", "20", "__", "_3", "4_"):
                for place in PLACES:
                    self.assertEqual([name + behind], self.found(name + behind, place), place)

    def test_barred_beginnings_are_found_in_each_place(self):
        for start in ("_pe_", "_dcw_", "_enum_", "_cm_", "_twin_re_", "_lay_", "_law_", "_stub_", "_sre", "_WallAttr"):
            for place in PLACES:
                self.assertEqual([start + "rows"], self.found(start + "rows", place), place)

    def test_names_near_to_barred_ones_are_free(self):
        classless = [place for place in PLACES if "class NAME" not in place]
        for name in ("_records", "_recorded", "_cold_war", "_a_record", "record", "_rows", "_law", "_cut", "__name__"):
            for place in classless if name.startswith("_") else PLACES:
                self.assertEqual([], self.found(name, place), place)

    def test_walls_are_free_as_attributes_and_methods_alone(self):
        free = [place for place in PLACES if re.search(r"self|box\.NAME|'NAME'", place)]
        for place in PLACES:
            self.assertEqual([] if place in free else ["_walls"], self.found("_walls", place), place)

    def test_words_that_stand_nowhere(self):
        for name in ("_wall", "_WallAttr"):
            for text in ("many = 1  # the NAME", "many = 'a NAME here'", "'''Rows.\n\nThe NAME.\n'''", "# box.NAME"):
                self.assertEqual([name], self.found(name, text), text)
            self.assertEqual([], [place for place in PLACES if name not in self.found(name, place)])
        self.assertEqual([], barred_in("many = 1  # the walls, the_wall and _walls"))

    def test_names_of_another_form(self):
        for name in ("__rows", "__", "_1", "_4rows"):
            for place in PLACES:
                self.assertEqual([] if "'NAME'" in place else [name], self.found(name, place), place)
        self.assertEqual([(1, "_Box")], barred_in("class _Box:\n    many = 1"))

    def test_a_lone_underscore_is_assigned_and_not_read(self):
        self.assertEqual([], barred_in("def count(_, many):\n    for _ in many:\n        return 1"))
        self.assertEqual([(2, "_")], barred_in("def count(_):\n    return _"))
        self.assertEqual([(1, "_")], barred_in("def _():\n    return 1"))


PURE = set("eq repr str len lt le gt ge ne add sub mul floordiv mod and or xor neg contains getitem bool".split())
MODIFYING = set("append clear extend insert pop remove reverse setdefault update add discard sort".split())
CREATING = (ast.List, ast.Dict, ast.ListComp, ast.DictComp)
CREATORS = ("list", "dict", "sorted")


class Purity(unittest.TestCase):
    """What an operator, a property, __eq__, __str__, __repr__ or __len__ runs (L5, L18, L28), by names alone."""

    def setUp(self):
        self.named = {}
        self.reached = []
        self.stored = {node.attr for node, _ in nodes(ast.Attribute) if isinstance(node.ctx, ast.Store)}
        for path, tree in trees():
            for node in ast.walk(tree):
                if isinstance(node, ast.FunctionDef):
                    self.named.setdefault(node.name, []).append((node, path.name))
                if isinstance(node, ast.ClassDef):
                    made = [row for row in node.body if isinstance(row, ast.FunctionDef) and row.name == "__init__"]
                    self.named.setdefault(node.name, []).extend((row, path.name) for row in made)
        for places in list(self.named.values()):
            for node, name in places:
                if self.is_root(node):
                    self.reach(node, name)

    def is_root(self, node):
        properties = [row for row in node.decorator_list if isinstance(row, ast.Name) and row.id == "property"]
        return bool(properties) or (node.name.startswith("__") and node.name.strip("_") in PURE)

    def reach(self, node, name):
        if any(node is known for known, _ in self.reached):
            return
        self.reached.append((node, name))
        for call in self.calls(node):
            called = call.func.id if isinstance(call.func, ast.Name) else getattr(call.func, "attr", None)
            for further, place in self.named.get(called, []):
                self.reach(further, place)

    def calls(self, node):
        return [call for call in ast.walk(node) if isinstance(call, ast.Call)]

    def created(self, function, name):
        """Tell whether each value that a local variable is assigned was made by the function itself."""
        given = [
            node.value
            for node in ast.walk(function)
            if isinstance(node, ast.Assign) and any(isinstance(at, ast.Name) and at.id == name for at in node.targets)
        ]
        calls = [node for node in given if isinstance(node, ast.Call) and isinstance(node.func, ast.Name)]
        made = [node for node in calls if node.func.id in CREATORS]
        made += [node for node in given if isinstance(node, CREATING)]
        return given != [] and len(made) == len(given)

    def test_it_looks_at_what_is_there(self):
        names = {node.name for node, _ in self.reached}
        self.assertLessEqual({"__or__", "__eq__", "cycle", "quiet", "latest_of", "rank", "rows"}, names)

    def test_no_name_is_called_that_is_an_attribute(self):
        for node, name in self.reached:
            for call in self.calls(node):
                if isinstance(call.func, ast.Attribute):
                    self.assertNotIn(call.func.attr, self.stored, f"{name}:{call.lineno}")

    def test_nothing_is_called_that_was_passed_or_is_held(self):
        for node, name in self.reached:
            for call in self.calls(node):
                self.assertIsInstance(call.func, (ast.Name, ast.Attribute), f"{name}:{call.lineno}")
                if isinstance(call.func, ast.Name):
                    self.assertNotIn(call.func.id, bound_names(node), f"{name}:{call.lineno}")

    def test_nothing_is_changed_that_was_not_created_there(self):
        for function, name in self.reached:
            for node in ast.walk(function):
                place = f"{name}:{getattr(node, 'lineno', 0)}"
                if isinstance(node, ast.Attribute) and not isinstance(node.ctx, ast.Load):
                    self.assertEqual(["__init__", "self"], [function.name, getattr(node.value, "id", "")], place)
                if isinstance(node, ast.Subscript) and not isinstance(node.ctx, ast.Load):
                    self.assertTrue(self.created(function, getattr(node.value, "id", "")), place)
                if isinstance(node, ast.Call) and getattr(node.func, "attr", "") in MODIFYING:
                    self.assertTrue(self.created(function, getattr(node.func.value, "id", "")), place)
