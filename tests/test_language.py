"""What of LANGUAGE.md a program can see, and the interface of DOC.md: which names stand in which file."""

import ast
import builtins
import inspect
import re
import unittest
from importlib import import_module
from pathlib import Path

PACKAGE = Path(__file__).resolve().parent.parent / "straylanes"
FILES = sorted(path for path in PACKAGE.rglob("*") if "__pycache__" not in path.parts)
TREES = {path.stem: ast.parse(path.read_text(encoding="utf-8")) for path in FILES if path.suffix == ".py"}

INTERFACE = {
    "machines": {
        "machine_error": ("value",), "word_error": ("machine", "value"), "stretch_error": ("value",),
        "rests_of": ("machine", "number"), "agreeing": ("machine", "word", "number"),
        "straying": ("machine", "word", "number"),
    },
    "wordtexts": {
        "machine_text": ("machine",), "read_machine": ("value",), "word_text": ("word",),
        "read_word": ("machine", "value"),
    },
    "programs": {
        "program_error": ("value",), "inputs_error": ("program", "value"), "run": ("program", "inputs"),
        "result": ("program", "inputs"), "hulls": ("program",),
    },
    "runs": {
        "lane_words": ("machine", "program", "inputs"), "strays_error": ("machine", "program", "value"),
        "strayed_words": ("machine", "program", "inputs", "strays"), "strayers": ("strays",),
    },
    "programtexts": {"program_text": ("program",), "read_program": ("value",)},
    "spans": {
        "span_of": ("machine", "lanes"), "same_lanes": ("machine", "one", "other"), "clashes": ("machine", "word"),
        "numbers_of": ("machine", "word", "stretch"),
    },
    "books": {
        "book_error": ("machine", "value"), "is_let": ("machine", "book", "lanes"), "lots_of": ("machine", "book"),
        "guard_error": ("machine", "value"),
    },
    "guards": {
        "reach": ("machine", "guard"), "bears": ("machine", "many", "guard"), "weakest": ("machine", "guard"),
        "strength": ("machine", "many"),
    },
    "mixups": {
        "mix_up": ("machine", "stretch", "guard"), "mix_up_holds": ("machine", "stretch", "guard", "value"),
    },
    "tellings": {
        "candidates": ("machine", "word", "stretch", "book"), "tell": ("machine", "word", "stretch", "book"),
        "mended": ("machine", "word", "stretch", "book"), "nearest": ("machine", "word", "stretch"),
        "suspects": ("machine", "word", "stretch", "book"),
    },
    "euclid": {"euclid_rows": ("a", "b"), "euclid_tell": ("machine", "word", "stretch")},
    "works": {
        "work_error": ("value",), "work_results": ("work",), "work_told": ("machine", "work", "strays", "book"),
    },
    "paces": {
        "stops": ("machine", "chain", "w"), "fewest": ("machine", "chain", "w"),
        "stops_hold": ("machine", "chain", "w", "value"),
    },
    "results": {
        "results": ("program",), "told_for_all": ("machine", "program", "book"),
        "mixed_runs": ("machine", "program", "book"), "mixed_runs_hold": ("machine", "program", "book", "value"),
    },
    "units": {
        "faces": ("machine", "program", "inputs", "lane", "units"),
        "told_from": ("machine", "program", "book", "units"), "unit_runs": ("machine", "program", "book", "units"),
    },
    "ledgers": {
        "ledger_error": ("machine", "value"), "fitting_lots": ("machine", "ledger", "book"),
        "sure_numbers": ("machine", "ledger", "book"), "sure_strayers": ("machine", "ledger", "book"),
        "sure_sound": ("machine", "ledger", "book"),
    },
    "stocks": {
        "stock_error": ("value",), "cheapest": ("stock", "many", "t"), "outdoes": ("one", "other"),
        "least_more": ("machine", "many", "t"),
    },
    "logs": {"log_text": ("edits",), "read_log": ("value",), "bench_behind": ("edits",)},
}
# The methods of each class, with their arguments; those without names are called by signs alone.
CLASSES = {
    ("benches", "Bench"): {
        "keep": ("name", "thing"), "drop": ("name",), "lane_put": ("name", "modulus"), "lane_taken": ("name", "lane"),
        "step_put": ("name", "step"), "step_taken": ("name",), "batch": ("edits",), "reach_of": ("name", "guard"),
        "told": ("name", "other", "book"), "undo": (), "redo": (), "at": ("version",), "copy": (), "attempt": ("work",),
        "__len__": (), "__iter__": (), "__contains__": None, "__getitem__": None, "__eq__": None, "__ne__": None,
    },
    ("shells", "Shell"): {"say": ("line",)},
}

BUILTINS = set("""len range enumerate zip min max sum abs sorted reversed int str bool list tuple dict set isinstance
    ord repr any all divmod iter next map ValueError TypeError KeyError IndexError LookupError ZeroDivisionError
    ArithmeticError OverflowError RuntimeError NotImplementedError AttributeError property""".split())
METHODS = set("""append clear copy count endswith extend find get index insert isalnum isalpha isdigit islower isspace
    isupper items join keys ljust lower lstrip partition pop remove replace reverse rfind rjust rpartition rsplit
    rstrip setdefault split splitlines startswith strip update upper values zfill bit_length isascii removeprefix
    removesuffix""".split())
# Of itertools nothing: a Bench is iterated over and has __len__ (L2).
LIBRARY = {"math": {"gcd", "lcm", "isqrt", "comb", "perm", "factorial"}}
BARRED_NAMES = set("""register mro elements open input law version_info with_traceback add_note attrgetter breakpoint
    compile copyright credits delattr dir eval exec exit gc getattr globals hasattr help id importlib license locals
    methodcaller os quit setattr super type vars sys""".split())
BARRED_WORDS = re.compile(r"\b(type|typing|typing_extensions|enum|Enum|IntEnum|StrEnum|Flag|IntFlag|Generic|Protocol"
                          r"|ABC|ABCMeta|namedtuple|NamedTuple|TypedDict|TYPE_CHECKING|abstractmethod)\b"
                          r"|dataclass|overload|contextmanager|_wall|_WallAttr|\(type\)|Meta|metaclass=")
BARRED_NODES = (ast.GeneratorExp, ast.Global, ast.AsyncFunctionDef, ast.Await, ast.Div, ast.MatMult, ast.AnnAssign,
                ast.Import)


def nodes():
    for stem, tree in TREES.items():
        for node in ast.walk(tree):
            yield f"{stem}:{getattr(node, 'lineno', 0)}", node


def is_class_name(node):
    """Tell whether node is type(x).__name__, as L8 lets it."""
    return (isinstance(node, ast.Attribute) and node.attr == "__name__" and isinstance(node.value, ast.Call)
            and isinstance(node.value.func, ast.Name) and node.value.func.id == "type"
            and len(node.value.args) == 1 and isinstance(node.value.args[0], ast.Name))


TYPES_LET = [node.value.func for _, node in nodes() if is_class_name(node)]


def bound_names():
    for where, node in nodes():
        if isinstance(node, (ast.FunctionDef, ast.ClassDef)):
            yield where, node.name
        elif isinstance(node, ast.arg):
            yield where, node.arg
        elif isinstance(node, ast.Name) and not isinstance(node.ctx, ast.Load):
            yield where, node.id
        elif isinstance(node, ast.alias):
            yield where, node.asname or node.name


def imports(tree):
    return [(node.module, alias.name) for node in tree.body if isinstance(node, ast.ImportFrom) for alias in node.names]


def top_names(tree):
    names = {node.name for node in tree.body if isinstance(node, (ast.FunctionDef, ast.ClassDef))}
    return names | {node.targets[0].id for node in tree.body if isinstance(node, ast.Assign)}


class FilesTest(unittest.TestCase):
    def test_the_folder_holds_plain_python_files_alone(self):
        self.assertIn(PACKAGE / "__init__.py", FILES)
        for path in FILES:
            self.assertRegex(path.name, r"\A([a-z][a-z0-9_]*|__init__|__main__)\.py\Z")
            self.assertNotIn(path.stem, dir(builtins))

    def test_signs_and_sizes(self):
        for path in FILES:
            text = path.read_text(encoding="utf-8")
            self.assertRegex(text, r"\A[ -~\n]*\Z", path)
            self.assertLessEqual(len(text.splitlines()), 399, path)
            self.assertLessEqual(max(len(row) for row in text.splitlines()), 120, path)

    def test_functions_are_short(self):
        for where, node in nodes():
            if isinstance(node, ast.FunctionDef):
                self.assertLessEqual(node.end_lineno - node.lineno + 1, 40, where)

    def test_barred_words(self):
        for where, node in nodes():
            if node in TYPES_LET:
                continue
            for field in ("id", "attr", "name", "arg", "module", "value"):
                word = getattr(node, field, None)
                if isinstance(word, str):
                    self.assertNotRegex(word, BARRED_WORDS, where)


class CodeTest(unittest.TestCase):
    def test_module_level(self):
        plain = (ast.ImportFrom, ast.FunctionDef, ast.ClassDef, ast.Assign)
        for stem, tree in TREES.items():
            self.assertIsInstance(tree.body[0], ast.Expr, stem + " has no docstring")
            for node in tree.body[1:]:
                self.assertIsInstance(node, plain, f"{stem}:{node.lineno}")

    def test_imports_name_what_their_file_defines(self):
        for stem, tree in TREES.items():
            for module, name in imports(tree):
                if module in LIBRARY:
                    self.assertIn(name, LIBRARY[module], stem)
                else:
                    self.assertTrue(module.startswith("straylanes."), stem)
                    self.assertIn(name, top_names(TREES[module.removeprefix("straylanes.")]), stem)

    def test_no_two_files_import_from_each_other(self):
        left = {stem: {module.removeprefix("straylanes.") for module, _ in imports(tree)} & set(TREES)
                for stem, tree in TREES.items()}
        while left:
            free = [stem for stem, needs in left.items() if not needs & set(left)]
            self.assertTrue(free, f"a ring among {sorted(left)}")
            for stem in free:
                del left[stem]

    def test_names_are_bound_once_and_plain(self):
        for where, name in bound_names():
            self.assertNotIn(name, BARRED_NAMES, where)
            self.assertNotIn(name, dir(builtins), where)
            self.assertRegex(name, r"\A(_?[A-Za-z][A-Za-z0-9_]*|_|__[a-z]+__)\Z", where)
        for stem, tree in TREES.items():
            heads = {node.name for node in tree.body if isinstance(node, ast.ClassDef)}
            heads |= {name for _, name in imports(tree)}
            inner = [node.arg for node in ast.walk(tree) if isinstance(node, ast.arg)]
            inner += [node.id for node in ast.walk(tree)
                      if isinstance(node, ast.Name) and isinstance(node.ctx, ast.Store)]
            self.assertEqual(heads & set(inner), set(), stem)

    def test_builtins_and_methods(self):
        own = {node.name for _, node in nodes() if isinstance(node, ast.FunctionDef)}
        for where, node in nodes():
            if isinstance(node, ast.Name) and node.id in dir(builtins) and node not in TYPES_LET:
                self.assertIn(node.id, BUILTINS, where)
            if isinstance(node, ast.Call) and isinstance(node.func, ast.Attribute):
                self.assertIn(node.func.attr, METHODS | own, where)

    def test_barred_forms(self):
        for where, node in nodes():
            self.assertNotIsInstance(node, BARRED_NODES, where)
            if isinstance(node, ast.Constant):
                self.assertNotIsInstance(node.value, (float, complex), where)
            if isinstance(node, ast.BinOp) and isinstance(node.op, ast.Pow):
                self.assertIsInstance(node.right, ast.Constant, where)
                self.assertIn(node.right.value, range(65), where)
            if isinstance(node, ast.Compare) and any(isinstance(op, (ast.Is, ast.IsNot)) for op in node.ops):
                self.assertIsInstance(node.comparators[0], ast.Constant, where)
            if isinstance(node, ast.Constant) and isinstance(node.value, str):
                self.assertNotIn("%", node.value, where)


class InterfaceTest(unittest.TestCase):
    def test_each_function_stands_in_its_file_with_its_arguments(self):
        for stem, functions in INTERFACE.items():
            module = import_module("straylanes." + stem)
            for name, arguments in functions.items():
                with self.subTest(f"{stem}.{name}"):
                    function = getattr(module, name)
                    self.assertTrue(inspect.isfunction(function))
                    self.assertEqual(function.__module__, "straylanes." + stem)
                    self.assertEqual(tuple(inspect.signature(function).parameters), arguments)

    def test_each_method_stands_in_its_class_with_its_arguments(self):
        for (stem, name), methods in CLASSES.items():
            kind = getattr(import_module("straylanes." + stem), name)
            self.assertEqual(kind.__module__, "straylanes." + stem)
            for method, arguments in methods.items():
                with self.subTest(f"{stem}.{name}.{method}"):
                    function = vars(kind)[method]
                    self.assertTrue(inspect.isfunction(function))
                    if arguments is not None:
                        self.assertEqual(tuple(inspect.signature(function).parameters), ("self", *arguments))

    def test_properties_have_no_setters(self):
        kind = import_module("straylanes.benches").Bench
        for name in ("shelf", "version", "log", "made"):
            self.assertIsInstance(vars(kind)[name], property)
            self.assertIsNone(vars(kind)[name].fset)


class OperatorTest(unittest.TestCase):
    """What L5 asks for since Bench has operators and properties."""

    def test_they_change_nothing(self):
        for where, node in nodes():
            if not isinstance(node, ast.FunctionDef) or node.name == "__init__":
                continue
            kinds = [decorator.id for decorator in node.decorator_list]
            self.assertIn(kinds, ([], ["property"]), where)
            if kinds or node.name.startswith("__"):
                body = [part for row in node.body for part in ast.walk(row)]
                self.assertFalse([part for part in body if isinstance(part, (ast.Assign, ast.AugAssign, ast.Delete))], where)

    def test_reversed_and_sort(self):
        for where, node in nodes():
            if isinstance(node, ast.Call) and isinstance(node.func, ast.Name) and node.func.id == "reversed":
                self.assertIn(getattr(getattr(node.args[0], "func", None), "id", None), ("list", "tuple", "sorted", "range"), where)
            if isinstance(node, ast.Attribute):
                self.assertNotEqual(node.attr, "sort", where)

    def test_errors_that_are_caught_are_own_ones(self):
        for where, node in nodes():
            if isinstance(node, ast.ExceptHandler):
                self.assertIn(node.type.id, top_names(TREES["errors"]), where)


if __name__ == "__main__":
    unittest.main()
