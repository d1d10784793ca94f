"""Rules of the program's language that a reading of its files can check, in a stricter form where that is simpler."""

import ast
import builtins
import re
import unittest
from pathlib import Path

PACKAGE = Path(__file__).resolve().parent.parent / "fairsearch"
FILES = sorted(PACKAGE.glob("*.py"))

ERRORS = set(
    "Exception ValueError TypeError KeyError IndexError LookupError ZeroDivisionError ArithmeticError OverflowError "
    "RuntimeError NotImplementedError".split()
)

BUILTINS = ERRORS | set(
    "len range enumerate zip min max sum abs sorted reversed int str bool list tuple dict set isinstance ord repr "
    "any all divmod iter next NotImplemented property staticmethod classmethod super".split()
)

KEYWORDS = {"sorted": {"key", "reverse"}, "min": {"key", "default"}, "max": {"key", "default"}, "sum": {"start"}}

METHODS = set(
    "append clear copy count endswith extend find get index insert isalnum isalpha isdigit islower isspace isupper items "
    "join keys ljust lower lstrip partition pop remove replace reverse rfind rjust rpartition rsplit rstrip setdefault "
    "split splitlines startswith strip update upper values zfill bit_length".split()
)

DOUBLE = {"__init__", "__eq__", "__repr__", "__str__", "__len__"}

BARRED = re.compile(
    r"\b(type|typing|typing_extensions|enum|Enum|IntEnum|StrEnum|Flag|IntFlag|Generic|Protocol|ABC|ABCMeta|namedtuple"
    r"|NamedTuple|TypedDict|TYPE_CHECKING|abstractmethod)\b|dataclass|overload|contextmanager"
)

BARRED_NAMES = {"register", "mro", "elements", "open", "input", "law", "version_info", "with_traceback", "add_note"}

BARRED_NODES = (
    ast.Global, ast.AsyncFunctionDef, ast.AsyncFor, ast.AsyncWith, ast.Await, ast.Import, ast.Div, ast.MatMult,
    ast.GeneratorExp, ast.Yield, ast.YieldFrom, ast.Match, ast.With, ast.NamedExpr, ast.Set, ast.SetComp, ast.AnnAssign,
)

# Where what is iterated at once may stand as an argument.
ITERATING = {"list", "tuple", "dict", "sorted", "sum", "any", "all", "enumerate", "zip"}


def trees():
    for file in FILES:
        yield file.name, ast.parse(file.read_text())


def nodes():
    for name, tree in trees():
        for node in ast.walk(tree):
            yield name, node


def functions():
    for name, tree in trees():
        for node in ast.walk(tree):
            if isinstance(node, ast.FunctionDef):
                yield name, tree, node


def called_name(node):
    return node.func.id if isinstance(node, ast.Call) and isinstance(node.func, ast.Name) else None


def is_iterated_at_once(node):
    if called_name(node) in ("zip", "enumerate", "reversed", "range"):
        return True
    return isinstance(node, ast.Call) and isinstance(node.func, ast.Attribute) and node.func.attr in (
        "items", "keys", "values")


def own_methods():
    return {
        part.name for name, node in nodes() if isinstance(node, ast.ClassDef)
        for part in node.body if isinstance(part, ast.FunctionDef)
    }


def stored_attributes():
    return {
        node.attr for name, node in nodes() if isinstance(node, ast.Attribute) and isinstance(node.ctx, ast.Store)
    }


class Texts(unittest.TestCase):
    def test_nothing_but_files_of_python(self):
        others = [path.name for path in PACKAGE.iterdir() if path.suffix != ".py" and path.name != "__pycache__"]
        self.assertEqual(others, [])

    def test_signs_lines_and_words(self):
        for file in FILES:
            text = file.read_bytes().decode("ascii")
            with self.subTest(file.name):
                self.assertRegex(text, r"\A[\n -~]*\n\Z")
                self.assertLessEqual(len(text.splitlines()), 399)
                self.assertLessEqual(max(map(len, text.splitlines())), 120)
                self.assertIsNone(BARRED.search(text))
                self.assertRegex(file.name, r"\A[a-z_]+\.py\Z")

    def test_strings(self):
        for file in FILES:
            self.assertIsNone(re.search(r"\\[^nt\\'\"]", file.read_text()), file.name)
        for name, node in nodes():
            if isinstance(node, ast.Constant) and isinstance(node.value, str):
                self.assertNotIn("%", node.value, name)
                self.assertNotIn("__", node.value, name)


class Trees(unittest.TestCase):
    def test_module_level(self):
        for name, tree in trees():
            for at, node in enumerate(tree.body):
                if isinstance(node, ast.Assign):
                    ast.literal_eval(node.value)
                    self.assertEqual([type(target) for target in node.targets], [ast.Name], name)
                elif isinstance(node, ast.Expr):
                    self.assertEqual((at, type(node.value.value)), (0, str), name)
                else:
                    self.assertIsInstance(node, (ast.ImportFrom, ast.FunctionDef, ast.ClassDef), name)

    def test_functions_are_short_and_plain(self):
        for name, tree, node in functions():
            self.assertLessEqual(node.end_lineno - node.lineno + 1, 40, (name, node.name))
            self.assertEqual(node.decorator_list, [], (name, node.name))
            for default in [*node.args.defaults, *[part for part in node.args.kw_defaults if part]]:
                self.assertTrue(isinstance(default, ast.Name) or ast.literal_eval(default) is not Ellipsis)

    def test_imports_name_the_file_that_defines_the_name(self):
        defined = {
            (f"fairsearch.{name[:-3]}", node.name)
            for name, tree in trees() for node in tree.body if isinstance(node, (ast.FunctionDef, ast.ClassDef))
        }
        for name, node in nodes():
            if isinstance(node, ast.ImportFrom):
                for told in node.names:
                    self.assertIsNone(told.asname)
                    self.assertTrue((node.module, told.name) in defined or told.name.isupper(), (name, told.name))

    def test_no_two_files_import_from_each_other(self):
        left = {
            name[:-3]: {node.module.split(".")[1] for node in tree.body if isinstance(node, ast.ImportFrom)}
            for name, tree in trees()
        }
        while left:
            ready = [name for name, needed in left.items() if not needed & set(left)]
            self.assertNotEqual(ready, [], left)
            for name in ready:
                del left[name]

    def test_statements_and_numbers(self):
        for name, node in nodes():
            self.assertNotIsInstance(node, BARRED_NODES, (name, getattr(node, "lineno", 0)))
            if isinstance(node, ast.Constant):
                self.assertNotIsInstance(node.value, (float, complex), name)
            if isinstance(node, ast.Compare):
                for sign, other in zip(node.ops, node.comparators):
                    if isinstance(sign, (ast.Is, ast.IsNot)):
                        self.assertTrue(isinstance(other, ast.Constant) and other.value in (None, True, False), name)

    def test_names(self):
        every = set(dir(builtins))
        for name, node in nodes():
            if isinstance(node, ast.Name):
                self.assertFalse(node.id.startswith("_"), (name, node.id))
                self.assertNotIn(node.id, BARRED_NAMES, name)
                if isinstance(node.ctx, ast.Load):
                    self.assertFalse(node.id in every - BUILTINS, (name, node.id))
                else:
                    self.assertNotIn(node.id, every, name)
            if isinstance(node, ast.arg):
                self.assertFalse(node.arg.startswith("_") or node.arg in every | BARRED_NAMES, (name, node.arg))
            if isinstance(node, (ast.FunctionDef, ast.ClassDef)):
                self.assertNotIn(node.name, every | BARRED_NAMES, name)
                self.assertTrue(not node.name.startswith("_") or node.name in DOUBLE, (name, node.name))

    def test_each_name_means_one_thing_in_a_file(self):
        for name, tree in trees():
            imported = [told.name for node in tree.body if isinstance(node, ast.ImportFrom) for told in node.names]
            defined = [node.name for node in tree.body if isinstance(node, (ast.FunctionDef, ast.ClassDef))]
            assigned = [node.targets[0].id for node in tree.body if isinstance(node, ast.Assign)]
            bound = imported + defined + assigned
            self.assertEqual(len(bound), len(set(bound)), name)
            local = {node.arg for node in ast.walk(tree) if isinstance(node, ast.arg)}
            local |= {
                node.id for node in ast.walk(tree) if isinstance(node, ast.Name) and isinstance(node.ctx, ast.Store)
            }
            self.assertEqual((local - set(assigned)) & set(bound), set(), name)

    def test_no_name_is_a_method_and_an_attribute(self):
        self.assertEqual(own_methods() & stored_attributes(), set())

    def test_attributes_that_are_read_are_stored(self):
        known = own_methods() | stored_attributes() | METHODS
        for name, node in nodes():
            if isinstance(node, ast.Attribute):
                self.assertIn(node.attr, known, name)

    def test_what_is_iterated_at_once(self):
        for name, tree in trees():
            allowed = [node.iter for node in ast.walk(tree) if isinstance(node, (ast.For, ast.comprehension))]
            allowed += [node.args[0] for node in ast.walk(tree) if called_name(node) in ITERATING and node.args]
            for node in ast.walk(tree):
                if is_iterated_at_once(node):
                    self.assertTrue(any(node is other for other in allowed), (name, node.lineno))

    def test_sets_stand_only_in_len_and_sorted(self):
        for name, tree in trees():
            held = [arg for node in ast.walk(tree) if called_name(node) in ("len", "sorted") for arg in node.args]
            for node in ast.walk(tree):
                if called_name(node) in ("set", "frozenset"):
                    self.assertTrue(any(node is arg for arg in held), (name, node.lineno))

    def test_keywords_of_builtins(self):
        for name, node in nodes():
            if called_name(node) in BUILTINS:
                self.assertLessEqual({word.arg for word in node.keywords}, KEYWORDS.get(called_name(node), set()), name)

    def test_errors_are_raised_on_the_spot_and_caught_by_name(self):
        for name, node in nodes():
            if isinstance(node, ast.Raise) and node.exc is not None:
                self.assertIsNotNone(called_name(node.exc), (name, node.lineno))
            if isinstance(node, ast.ExceptHandler):
                caught = node.type.elts if isinstance(node.type, ast.Tuple) else [node.type]
                barred = ERRORS - {"KeyError", "ZeroDivisionError"}
                self.assertEqual([error.id for error in caught if error.id in barred], [], (name, node.lineno))

    def test_double_underscore_methods_change_nothing(self):
        for name, tree, node in functions():
            if node.name in DOUBLE - {"__init__"}:
                for part in ast.walk(node):
                    self.assertNotIsInstance(part, (ast.Assign, ast.AugAssign, ast.Delete), (name, node.name))
                self.assertIsInstance(node.body[-1], ast.Return)


class Interface(unittest.TestCase):
    DEFINED = {
        "errors": "NoText NotPlain NoRow TooMany Missing ShelfError Taken Used NoProgram NoGoal NoDeed",
        "terms": "is_word is_term is_ground unknowns_in renamed",
        "termtexts": "show_term read_term show_filling",
        "fillings": "is_filling put_in alike",
        "never": "never",
        "neverchecks": "never_holds",
        "stores": "Store",
        "goals": "is_program is_goal",
        "goaltexts": "show_goal read_goal show_relation read_relation show_program read_program",
        "traces": "trace_holds path_of",
        "showing": "covers covered show_answer",
        "searches": "Search",
        "tracing": "trace_along",
        "ends": "end_paper",
        "endchecks": "end_holds",
        "kept": "kept_answers",
        "shelves": "Shelf",
        "desk": "Desk",
        "findings": "finding_holds",
    }

    METHODS = {
        "Store": "same unlike number word absent world filling kinds absents rows",
        "Search": "take turns rounds ended",
        "Shelf": "do log inside names relation titles turns open_ones",
        "Desk": "say said",
    }

    def test_each_name_is_defined_in_its_file(self):
        told = {
            name[:-3]: {node.name for node in tree.body if isinstance(node, (ast.FunctionDef, ast.ClassDef))}
            for name, tree in trees()
        }
        for module, names in self.DEFINED.items():
            self.assertLessEqual(set(names.split()), told[module])

    def test_each_method_stands_in_its_class(self):
        classes = {node.name: node for name, node in nodes() if isinstance(node, ast.ClassDef)}
        for name, methods in self.METHODS.items():
            own = {part.name for part in classes[name].body if isinstance(part, ast.FunctionDef)}
            self.assertLessEqual(set(methods.split()), own)


if __name__ == "__main__":
    unittest.main()
