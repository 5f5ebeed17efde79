"""Those rules of the language's small part that can be seen in the package's files one by one."""

import ast
import builtins
import os
import re
import unittest

import coverpieces

FOLDER = os.path.dirname(coverpieces.__file__)

ALLOWED = """
    len range enumerate zip min max sum abs sorted reversed int str bool list tuple dict set frozenset
    isinstance ord repr any all divmod Exception ValueError TypeError KeyError IndexError LookupError
    ZeroDivisionError ArithmeticError OverflowError RuntimeError NotImplementedError AttributeError
    StopIteration
""".split()

METHODS = """
    append clear copy count endswith extend find get index insert isalnum isalpha isdigit islower isspace
    isupper items join keys ljust lower lstrip partition pop remove replace reverse rfind rjust rpartition
    rsplit rstrip setdefault split splitlines startswith strip update upper values zfill bit_length
""".split()

BANNED_WORDS = """
    type typing typing_extensions enum Enum IntEnum StrEnum Flag IntFlag Generic Protocol ABC ABCMeta
    namedtuple NamedTuple TypedDict TYPE_CHECKING abstractmethod
""".split()

BANNED_PARTS = ("dataclass", "overload", "contextmanager")

BANNED_NODES = (
    ast.With, ast.Match, ast.Delete, ast.Global, ast.Nonlocal, ast.Assert, ast.Yield, ast.YieldFrom,
    ast.AsyncFunctionDef, ast.Await, ast.SetComp, ast.DictComp, ast.GeneratorExp, ast.NamedExpr,
    ast.Starred, ast.Div, ast.Import,
)


def package_files():
    """The package's files, name and text."""
    for name in sorted(os.listdir(FOLDER)):
        if name.endswith(".py"):
            with open(os.path.join(FOLDER, name), encoding="utf-8") as file:
                yield name, file.read()


def own_names(tree):
    """The names that the files' defs and assignments bind."""
    names = set()
    for node in ast.walk(tree):
        if isinstance(node, (ast.FunctionDef, ast.ClassDef)):
            names.add(node.name)
        elif isinstance(node, ast.Name) and isinstance(node.ctx, ast.Store):
            names.add(node.id)
        elif isinstance(node, ast.arg):
            names.add(node.arg)
        elif isinstance(node, ast.alias):
            names.add(node.asname or node.name)
    return names


class LanguageTest(unittest.TestCase):
    def test_signs_and_sizes(self):
        for name, text in package_files():
            self.assertRegex(name, r"\A(__init__|[a-z][a-z0-9_]*)\.py\Z")
            self.assertRegex(text, r"\A[ -~\n]*\Z", name)
            lines = text.split("\n")
            self.assertLessEqual(len(lines), 400, name)
            for line in lines:
                self.assertLessEqual(len(line), 120, name)

    def test_words(self):
        for name, text in package_files():
            words = re.findall(r"[A-Za-z0-9_]+", text)
            for word in words:
                self.assertNotIn(word, BANNED_WORDS, name)
            for part in BANNED_PARTS:
                self.assertNotIn(part, text, name)

    def test_imports(self):
        for name, text in package_files():
            for node in ast.parse(text).body:
                if isinstance(node, ast.ImportFrom):
                    self.assertTrue(node.module.startswith("coverpieces."), name)
                    self.assertEqual(node.level, 0, name)

    def test_top_of_a_file(self):
        allowed = (ast.ImportFrom, ast.FunctionDef, ast.ClassDef, ast.Assign)
        for name, text in package_files():
            body = ast.parse(text).body
            self.assertIsNotNone(ast.get_docstring(ast.parse(text)), name)
            for node in body[1:]:
                self.assertIsInstance(node, allowed, name)

    def test_statements_and_values(self):
        for name, text in package_files():
            for node in ast.walk(ast.parse(text)):
                where = (name, getattr(node, "lineno", 0))
                self.assertNotIsInstance(node, BANNED_NODES, where)
                if isinstance(node, ast.Constant):
                    self.assertNotIsInstance(node.value, (float, bytes, complex), where)
                    if isinstance(node.value, str):
                        self.assertNotIn("%", node.value, where)
                if isinstance(node, (ast.For, ast.While)):
                    self.assertEqual(node.orelse, [], where)
                if isinstance(node, ast.ListComp):
                    self.assertEqual(len(node.generators), 1, where)
                    self.assertLessEqual(len(node.generators[0].ifs), 1, where)
                if isinstance(node, ast.Assign):
                    self.assertEqual(len(node.targets), 1, where)

    def test_functions(self):
        for name, text in package_files():
            for node in ast.walk(ast.parse(text)):
                if isinstance(node, ast.FunctionDef):
                    where = (name, node.name)
                    self.assertLessEqual(node.end_lineno - node.lineno + 1, 40, where)
                    self.assertEqual(node.decorator_list, [], where)
                    self.assertIsNone(node.args.vararg, where)
                    self.assertIsNone(node.args.kwarg, where)
                    self.assertEqual(node.args.kwonlyargs, [], where)

    def test_names(self):
        for name, text in package_files():
            tree = ast.parse(text)
            for own in own_names(tree):
                self.assertFalse(hasattr(builtins, own), (name, own))
                self.assertFalse(own.startswith("_") and own != "__init__", (name, own))
            for node in ast.walk(tree):
                if isinstance(node, ast.Name) and hasattr(builtins, node.id):
                    self.assertIn(node.id, ALLOWED, (name, node.lineno))

    def test_methods(self):
        known = set(METHODS)
        for name, text in package_files():
            known |= own_names(ast.parse(text))
        for name, text in package_files():
            for node in ast.walk(ast.parse(text)):
                if isinstance(node, ast.Call) and isinstance(node.func, ast.Attribute):
                    self.assertIn(node.func.attr, known, (name, node.lineno))


if __name__ == "__main__":
    unittest.main()
