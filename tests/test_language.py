"""The mechanical rules of LANGUAGE.md, and the names of the interface."""

import ast
import inspect
import pathlib
import re
import unittest

import blockcover
from blockcover import answers, blocks, covers, errors, rank, tables

PACKAGE = pathlib.Path(blockcover.__file__).parent
BARRED = re.compile(r"\b(type|typing|typing_extensions|enum|Enum|IntEnum|StrEnum|Flag|IntFlag|Generic|Protocol|ABC|"
                    r"ABCMeta|namedtuple|NamedTuple|TypedDict|TYPE_CHECKING|abstractmethod)\b"
                    r"|dataclass|overload|contextmanager")
INTERFACE = {
    tables: {"turned": ["table"], "plain": ["table"], "together": ["one", "other"], "changed": ["table", "cell"]},
    blocks: {"full": ["table", "block"], "greatest": ["table"], "near": ["table", "one", "other"], "apart": ["table"]},
    covers: {"covered": ["table", "most"], "fewest": ["table"], "parted": ["table", "most"], "fewest_parts": ["table"],
             "how_many_parts": ["table", "many"]},
    rank: {"rank": ["table"]},
    answers: {"Covered": ["blocks"], "Barred": ["tree"], "Parted": ["blocks"], "Split": ["tree"]},
}


def files():
    return sorted(path for path in PACKAGE.rglob("*") if path.is_file() and "__pycache__" not in path.parts)


class LanguageTest(unittest.TestCase):
    def test_files(self):
        for path in files():
            text = path.read_text(encoding="utf-8")
            self.assertRegex(path.name, r"^[a-z_][a-z0-9_]*\.py$")
            self.assertTrue(all(sign == "\n" or " " <= sign <= "~" for sign in text), path)
            self.assertLessEqual(len(text.splitlines()), 400, path)
            self.assertLessEqual(max(map(len, text.splitlines())), 120, path)
            self.assertIsNone(BARRED.search(text), path)

    def test_nodes(self):
        for path in files():
            for node in ast.walk(ast.parse(path.read_text(encoding="utf-8"))):
                self.check_node(path.name, node)

    def check_node(self, name, node):
        self.assertNotIsInstance(node, (ast.Import, ast.Global, ast.Div, ast.AsyncFunctionDef), name)
        if isinstance(node, ast.ImportFrom):
            self.assertEqual((node.level, node.module.split(".")[0]), (0, "blockcover"), name)
        if isinstance(node, ast.FunctionDef):
            self.assertLessEqual(node.end_lineno - node.lineno + 1, 40, (name, node.name))
        if isinstance(node, ast.Constant):
            self.assertNotIsInstance(node.value, (float, complex), name)
            self.assertFalse(isinstance(node.value, str) and "%" in node.value, name)
        if isinstance(node, ast.Name):
            self.assertFalse(node.id.startswith("_"), (name, node.id))


class InterfaceTest(unittest.TestCase):
    def test_names_and_arguments(self):
        for module, functions in INTERFACE.items():
            for name, arguments in functions.items():
                self.assertEqual(list(inspect.signature(getattr(module, name)).parameters), arguments, name)

    def test_answers(self):
        for name in ("Covered", "Barred", "Parted", "Split"):
            kind = getattr(answers, name)
            self.assertEqual(kind.__bases__, (answers.Answer,))
            self.assertEqual(list(inspect.signature(vars(kind)["shows"]).parameters), ["self", "table", "most"])

    def test_errors(self):
        for name in ("CoverError", "BadTable", "BadCell", "BadBlock", "BadCount", "TooGreat"):
            self.assertTrue(issubclass(getattr(errors, name), ValueError), name)
