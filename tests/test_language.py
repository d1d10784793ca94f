"""Rules of the program's language that a reading of its files can check."""

import ast
import builtins
import re
import unittest
from pathlib import Path

PACKAGE = Path(__file__).resolve().parent.parent / "fairsearch"
FILES = sorted(PACKAGE.glob("*.py"))

BUILTINS = set(
    "len range enumerate zip min max sum abs sorted reversed int str bool list tuple dict set isinstance ord repr "
    "any all divmod iter next Exception ValueError TypeError KeyError IndexError LookupError ZeroDivisionError "
    "ArithmeticError OverflowError RuntimeError NotImplementedError NotImplemented property staticmethod classmethod "
    "super".split()
)

BARRED = re.compile(
    r"\b(type|typing|typing_extensions|enum|Enum|IntEnum|StrEnum|Flag|IntFlag|Generic|Protocol|ABC|ABCMeta|namedtuple"
    r"|NamedTuple|TypedDict|TYPE_CHECKING|abstractmethod)\b|dataclass|overload|contextmanager"
)

BARRED_NAMES = {"register", "mro", "elements", "open", "input", "law", "version_info", "with_traceback", "add_note"}

BARRED_NODES = (
    ast.Global, ast.AsyncFunctionDef, ast.AsyncFor, ast.AsyncWith, ast.Await, ast.Import, ast.Div, ast.MatMult,
)


def trees():
    for file in FILES:
        yield file.name, ast.parse(file.read_text())


def nodes():
    for name, tree in trees():
        for node in ast.walk(tree):
            yield name, node


class Texts(unittest.TestCase):
    def test_nothing_but_files_of_python(self):
        others = [path.name for path in PACKAGE.iterdir() if path.suffix != ".py" and path.name != "__pycache__"]
        self.assertEqual(others, [])

    def test_signs_lines_and_words(self):
        for file in FILES:
            text = file.read_bytes().decode("ascii")
            with self.subTest(file.name):
                self.assertRegex(text, r"\A[\n -~]*\n\Z")
                self.assertLessEqual(len(text.splitlines()), 399)
                self.assertLessEqual(max(map(len, text.splitlines())), 120)
                self.assertIsNone(BARRED.search(text))


class Trees(unittest.TestCase):
    def test_functions_are_short(self):
        for name, node in nodes():
            if isinstance(node, ast.FunctionDef):
                self.assertLessEqual(node.end_lineno - node.lineno + 1, 40, (name, node.name))

    def test_imports_name_the_file_that_defines_the_name(self):
        defined = {
            (f"fairsearch.{name[:-3]}", node.name)
            for name, tree in trees() for node in tree.body if isinstance(node, (ast.FunctionDef, ast.ClassDef))
        }
        for name, node in nodes():
            if isinstance(node, ast.ImportFrom):
                for told in node.names:
                    self.assertTrue((node.module, told.name) in defined or told.name.isupper(), (name, told.name))

    def test_statements_and_numbers(self):
        for name, node in nodes():
            self.assertNotIsInstance(node, BARRED_NODES, name)
            if isinstance(node, ast.Constant):
                self.assertNotIsInstance(node.value, (float, complex), name)
            if isinstance(node, ast.Compare):
                for sign, other in zip(node.ops, node.comparators):
                    if isinstance(sign, (ast.Is, ast.IsNot)):
                        self.assertTrue(isinstance(other, ast.Constant) and other.value in (None, True, False), name)

    def test_names(self):
        every = set(dir(builtins))
        for name, node in nodes():
            if isinstance(node, ast.Name):
                self.assertFalse(node.id.startswith("_"), (name, node.id))
                self.assertNotIn(node.id, BARRED_NAMES, name)
                if isinstance(node.ctx, ast.Load):
                    self.assertFalse(node.id in every - BUILTINS, (name, node.id))
                else:
                    self.assertNotIn(node.id, every, name)
            if isinstance(node, ast.arg):
                self.assertFalse(node.arg.startswith("_") or node.arg in every | BARRED_NAMES, (name, node.arg))

    def test_no_name_is_a_method_and_an_attribute(self):
        methods = {
            part.name for name, node in nodes() if isinstance(node, ast.ClassDef)
            for part in node.body if isinstance(part, ast.FunctionDef)
        }
        stored = {
            node.attr for name, node in nodes() if isinstance(node, ast.Attribute) and isinstance(node.ctx, ast.Store)
        }
        self.assertEqual(methods & stored, set())


class Interface(unittest.TestCase):
    DEFINED = {
        "errors": "NoText NotPlain NoRow TooMany Missing ShelfError Taken Used NoProgram NoGoal NoDeed",
        "terms": "is_word is_term is_ground unknowns_in renamed",
        "termtexts": "show_term read_term show_filling",
    }

    def test_each_name_is_defined_in_its_file(self):
        told = {
            name[:-3]: {node.name for node in tree.body if isinstance(node, (ast.FunctionDef, ast.ClassDef))}
            for name, tree in trees()
        }
        for module, names in self.DEFINED.items():
            self.assertLessEqual(set(names.split()), told[module])


if __name__ == "__main__":
    unittest.main()
