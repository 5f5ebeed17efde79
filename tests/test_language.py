"""Those rules of the language's small part that can be seen in the package's files one by one."""

import ast
import builtins
import os
import re
import unittest

import coverpieces

FOLDER = os.path.dirname(coverpieces.__file__)

ALLOWED = """
    len range enumerate zip min max sum abs sorted reversed int str bool list tuple dict set frozenset
    isinstance ord repr any all divmod Exception ValueError TypeError KeyError IndexError LookupError
    ZeroDivisionError ArithmeticError OverflowError RuntimeError NotImplementedError AttributeError
    StopIteration
""".split()

METHODS = """
    append clear copy count endswith extend find get index insert isalnum isalpha isdigit islower isspace
    isupper items join keys ljust lower lstrip partition pop remove replace reverse rfind rjust rpartition
    rsplit rstrip setdefault split splitlines startswith strip update upper values zfill bit_length
""".split()

BANNED_WORDS = """
    type typing typing_extensions enum Enum IntEnum StrEnum Flag IntFlag Generic Protocol ABC ABCMeta
    namedtuple NamedTuple TypedDict TYPE_CHECKING abstractmethod
""".split()

BANNED_PARTS = ("dataclass", "overload", "contextmanager")

BANNED_NAMES = """
    register mro elements open input version_info with_traceback add_note attrgetter breakpoint builtins compile
    copyright credits delattr dir eval exec exit gc getattr globals hasattr help id importlib license locals
    methodcaller os quit setattr super type vars sys __name__ format format_map
""".split()

# The calls whose outcome is walked on the spot, and those that walk it.
WALKED = "zip enumerate reversed range items keys values".split()
WALKERS = "list tuple dict sorted sum any all enumerate zip min max join".split()

KEYWORDS = {
    "sorted": ("key", "reverse"), "min": ("key", "default"), "max": ("key", "default"), "sum": ("start",),
    "enumerate": ("start",), "zip": ("strict",),
}

# The values of an object may be called like these methods of Python's own values, and like no other.
VALUE_NAMES = "count index title find get join lower upper split strip copy add".split()

KEYS = "len int str abs sum min max tuple".split()

CHANGES = "append clear extend insert pop remove reverse setdefault update".split()

BANNED_NODES = (
    ast.With, ast.Match, ast.Delete, ast.Global, ast.Nonlocal, ast.Assert, ast.Yield, ast.YieldFrom,
    ast.AsyncFunctionDef, ast.Await, ast.SetComp, ast.DictComp, ast.GeneratorExp, ast.NamedExpr,
    ast.Starred, ast.Div, ast.Import,
)


def package_files():
    """The package's files, name and text."""
    for name in sorted(os.listdir(FOLDER)):
        if name.endswith(".py"):
            with open(os.path.join(FOLDER, name), encoding="utf-8") as file:
                yield name, file.read()


def own_names(tree):
    """The names that the files' defs and assignments bind."""
    names = set()
    for node in ast.walk(tree):
        if isinstance(node, (ast.FunctionDef, ast.ClassDef)):
            names.add(node.name)
        elif isinstance(node, ast.Name) and isinstance(node.ctx, ast.Store):
            names.add(node.id)
        elif isinstance(node, ast.arg):
            names.add(node.arg)
        elif isinstance(node, ast.alias):
            names.add(node.asname or node.name)
    return names


def nodes_with_parents():
    """Each node of each file, with the node around it and where it stands."""
    for name, text in package_files():
        for parent in ast.walk(ast.parse(text)):
            for node in ast.iter_child_nodes(parent):
                yield node, parent, (name, getattr(node, "lineno", 0))


def called(node):
    """The name of the function or the method that a node calls, or an empty text."""
    if not isinstance(node, ast.Call):
        return ""
    return node.func.attr if isinstance(node.func, ast.Attribute) else getattr(node.func, "id", "")


def top_names(tree):
    """The names that a file binds at its top by defs, classes and assignments, each as often as it does."""
    names = []
    for node in tree.body:
        if isinstance(node, (ast.FunctionDef, ast.ClassDef)):
            names.append(node.name)
        elif isinstance(node, ast.Assign):
            names.extend([target.id for target in node.targets])
    return names


def drawn_from(tree):
    """The package's files that a file draws from, each with the names drawn."""
    return {node.module: [alias.name for alias in node.names] for node in tree.body if isinstance(node, ast.ImportFrom)}


def class_names():
    """For each class the names of its methods and of its values, each as often as it is bound."""
    found = {}
    for name, text in package_files():
        for node in ast.parse(text).body:
            if isinstance(node, ast.ClassDef):
                methods = [part.name for part in node.body if isinstance(part, ast.FunctionDef)]
                values = [part.attr for part in ast.walk(node)
                          if isinstance(part, ast.Attribute) and isinstance(part.ctx, ast.Store)]
                found[name, node.name] = (methods, values)
    return found


def changed_names(body):
    """What is changed within a loop's body: the roots of `x.append(..)`, `x[k] = ..` and their like, as texts."""
    found = []
    for node in [part for statement in body for part in ast.walk(statement)]:
        if called(node) in CHANGES and isinstance(node.func, ast.Attribute):
            found.append(ast.unparse(node.func.value))
        if isinstance(node, ast.Subscript) and isinstance(node.ctx, ast.Store):
            found.append(ast.unparse(node.value))
    return found


def walked_names(node):
    """What a loop walks, itself or through a call, as texts."""
    found = [ast.unparse(node)]
    if isinstance(node, ast.Call):
        for part in node.args:
            found.extend(walked_names(part))
        if isinstance(node.func, ast.Attribute):
            found.append(ast.unparse(node.func.value))
    return found


class LanguageTest(unittest.TestCase):
    def test_signs_and_sizes(self):
        for name, text in package_files():
            self.assertRegex(name, r"\A(__init__|[a-z][a-z0-9_]*)\.py\Z")
            self.assertRegex(text, r"\A[ -~\n]*\Z", name)
            lines = text.split("\n")
            self.assertLessEqual(len(lines), 400, name)
            for line in lines:
                self.assertLessEqual(len(line), 120, name)

    def test_words(self):
        for name, text in package_files():
            words = re.findall(r"[A-Za-z0-9_]+", text)
            for word in words:
                self.assertNotIn(word, BANNED_WORDS, name)
            for part in BANNED_PARTS:
                self.assertNotIn(part, text, name)

    def test_imports(self):
        for name, text in package_files():
            for node in ast.parse(text).body:
                if isinstance(node, ast.ImportFrom):
                    self.assertTrue(node.module.startswith("coverpieces."), name)
                    self.assertEqual(node.level, 0, name)

    def test_top_of_a_file(self):
        allowed = (ast.ImportFrom, ast.FunctionDef, ast.ClassDef, ast.Assign)
        for name, text in package_files():
            body = ast.parse(text).body
            self.assertIsNotNone(ast.get_docstring(ast.parse(text)), name)
            for node in body[1:]:
                self.assertIsInstance(node, allowed, name)

    def test_statements_and_values(self):
        for name, text in package_files():
            for node in ast.walk(ast.parse(text)):
                where = (name, getattr(node, "lineno", 0))
                self.assertNotIsInstance(node, BANNED_NODES, where)
                if isinstance(node, ast.Constant):
                    self.assertNotIsInstance(node.value, (float, bytes, complex), where)
                    if isinstance(node.value, str):
                        self.assertNotIn("%", node.value, where)
                if isinstance(node, (ast.For, ast.While)):
                    self.assertEqual(node.orelse, [], where)
                if isinstance(node, ast.ListComp):
                    self.assertEqual(len(node.generators), 1, where)
                    self.assertLessEqual(len(node.generators[0].ifs), 1, where)
                if isinstance(node, ast.Assign):
                    self.assertEqual(len(node.targets), 1, where)

    def test_functions(self):
        for name, text in package_files():
            for node in ast.walk(ast.parse(text)):
                if isinstance(node, ast.FunctionDef):
                    where = (name, node.name)
                    self.assertLessEqual(node.end_lineno - node.lineno + 1, 40, where)
                    self.assertEqual(node.decorator_list, [], where)
                    self.assertIsNone(node.args.vararg, where)
                    self.assertIsNone(node.args.kwarg, where)
                    self.assertEqual(node.args.kwonlyargs, [], where)

    def test_names(self):
        for name, text in package_files():
            tree = ast.parse(text)
            for own in own_names(tree):
                self.assertNotIn(own, vars(builtins), (name, own))
                self.assertFalse(own.startswith("_") and own != "__init__", (name, own))
            for node in ast.walk(tree):
                if isinstance(node, ast.Name) and hasattr(builtins, node.id):
                    self.assertIn(node.id, ALLOWED, (name, node.lineno))

    def test_methods(self):
        known = set(METHODS)
        for name, text in package_files():
            known |= own_names(ast.parse(text))
        for name, text in package_files():
            for node in ast.walk(ast.parse(text)):
                if isinstance(node, ast.Call) and isinstance(node.func, ast.Attribute):
                    self.assertIn(node.func.attr, known, (name, node.lineno))

    def test_names_that_are_not_used(self):
        for node, parent, where in nodes_with_parents():
            if isinstance(node, ast.Name):
                self.assertNotIn(node.id, BANNED_NAMES, where)
            if isinstance(node, ast.Attribute):
                self.assertNotIn(node.attr, BANNED_NAMES, where)
                self.assertFalse(node.attr.startswith("_"), where)

    def test_classes(self):
        for node, parent, where in nodes_with_parents():
            if isinstance(node, ast.ClassDef):
                self.assertIsInstance(parent, ast.Module, where)
                self.assertLessEqual(len(node.bases), 1, where)
                self.assertEqual(node.keywords + node.decorator_list, [], where)
                self.assertIsNotNone(ast.get_docstring(node), where)
                for part in node.body[1:]:
                    self.assertIsInstance(part, ast.FunctionDef, where)

    def test_methods_and_values_of_classes(self):
        python_own = set(dir(str) + dir(int) + dir(list) + dir(dict) + dir(set) + dir(bytes) + dir(tuple))
        all_methods = [name for methods, values in class_names().values() for name in methods]
        for where, (methods, values) in class_names().items():
            self.assertEqual(len(methods), len(set(methods)), where)
            for name in values:
                self.assertNotIn(name, all_methods, where)
                self.assertTrue(name not in python_own or name in VALUE_NAMES, (where, name))
            for name in methods:
                allowed = METHODS + ["__init__", "add", "discard"]
                self.assertTrue(name not in python_own or name in allowed, (where, name))

    def test_init_gives_back_nothing(self):
        for node, parent, where in nodes_with_parents():
            if isinstance(node, ast.FunctionDef) and node.name == "__init__":
                self.assertEqual([part for part in ast.walk(node) if isinstance(part, ast.Return)], [], where)

    def test_defaults_are_plain_values(self):
        for node, parent, where in nodes_with_parents():
            if isinstance(node, ast.FunctionDef):
                for default in node.args.defaults:
                    self.assertIsInstance(default, ast.Constant, where)

    def test_what_a_loop_walks_is_not_changed_in_it(self):
        for node, parent, where in nodes_with_parents():
            if isinstance(node, ast.For):
                self.assertEqual(sorted(set(walked_names(node.iter)) & set(changed_names(node.body))), [], where)

    def test_each_name_once(self):
        for name, text in package_files():
            tree = ast.parse(text)
            names = top_names(tree)
            for drawn in drawn_from(tree).values():
                names.extend(drawn)
            self.assertEqual(len(names), len(set(names)), name)

    def test_locals_are_not_called_like_imports_and_classes(self):
        for name, text in package_files():
            tree = ast.parse(text)
            taken = [node.name for node in tree.body if isinstance(node, ast.ClassDef)]
            for drawn in drawn_from(tree).values():
                taken.extend(drawn)
            for node in ast.walk(tree):
                if isinstance(node, ast.arg):
                    self.assertNotIn(node.arg, taken, (name, node.lineno))
                if isinstance(node, ast.Name) and isinstance(node.ctx, ast.Store):
                    self.assertNotIn(node.id, taken, (name, node.lineno))

    def test_drawn_from_the_defining_file(self):
        bound = {"coverpieces." + name[:-3]: top_names(ast.parse(text)) for name, text in package_files()}
        for name, text in package_files():
            for module, drawn in drawn_from(ast.parse(text)).items():
                self.assertIn(module, bound, name)
                for word in drawn:
                    self.assertIn(word, bound[module], name)
        for node, parent, where in nodes_with_parents():
            if isinstance(node, ast.ImportFrom):
                self.assertIsInstance(parent, ast.Module, where)
                self.assertEqual([alias.asname for alias in node.names if alias.asname], [], where)

    def test_no_files_draw_from_one_another(self):
        left = {"coverpieces." + name[:-3]: set(drawn_from(ast.parse(text))) for name, text in package_files()}
        while left:
            ready = [module for module, sources in left.items() if not sources & set(left)]
            self.assertNotEqual(ready, [], sorted(left))
            left = {module: sources for module, sources in left.items() if module not in ready}

    def test_is_beside_none_true_and_false(self):
        for node, parent, where in nodes_with_parents():
            if isinstance(node, ast.Compare):
                for sort, right in zip(node.ops, node.comparators):
                    if isinstance(sort, (ast.Is, ast.IsNot)):
                        self.assertIsInstance(right, ast.Constant, where)
                        self.assertIn(repr(right.value), ("None", "True", "False"), where)

    def test_no_annotations(self):
        for node, parent, where in nodes_with_parents():
            self.assertNotIsInstance(node, ast.AnnAssign, where)
            if isinstance(node, ast.FunctionDef):
                self.assertIsNone(node.returns, where)
            if isinstance(node, ast.arg):
                self.assertIsNone(node.annotation, where)

    def test_errors(self):
        for node, parent, where in nodes_with_parents():
            if isinstance(node, ast.Raise):
                self.assertIsInstance(node.exc, ast.Call, where)
            if isinstance(node, ast.Try):
                self.assertEqual(node.finalbody, [], where)
            if isinstance(node, ast.ExceptHandler):
                self.assertIsInstance(node.type, (ast.Name, ast.Tuple), where)
                names = [found.id for found in ast.walk(node.type) if isinstance(found, ast.Name)]
                self.assertEqual(sorted({"Exception", "TypeError"} & set(names)), [], where)

    def test_keywords(self):
        for node, parent, where in nodes_with_parents():
            if isinstance(node, ast.keyword) and hasattr(builtins, called(parent)):
                self.assertIn(node.arg, KEYWORDS.get(called(parent), ()), where)
                if node.arg == "key":
                    self.assertIsInstance(node.value, (ast.Name, ast.Lambda, ast.Attribute), where)
                    word = getattr(node.value, "id", "")
                    self.assertTrue(word not in vars(builtins) or word in KEYS, where)
                if node.arg in ("reverse", "strict"):
                    self.assertIsInstance(node.value, ast.Constant, where)

    def test_walked_at_once(self):
        for node, parent, where in nodes_with_parents():
            if called(node) in WALKED:
                if isinstance(parent, (ast.For, ast.comprehension)):
                    self.assertIs(parent.iter, node, where)
                else:
                    self.assertIn(called(parent), WALKERS, where)

    def test_sets(self):
        for node, parent, where in nodes_with_parents():
            self.assertNotEqual(called(node), "frozenset", where)
            if called(node) == "set" or isinstance(node, ast.Set):
                beside = isinstance(parent, (ast.Compare, ast.BinOp))
                self.assertTrue(beside or called(parent) in ("sorted", "len"), where)

    def test_texts_with_values(self):
        for node, parent, where in nodes_with_parents():
            if isinstance(node, ast.FormattedValue):
                self.assertIsInstance(node.value, ast.Name, where)
                self.assertIsNone(node.format_spec, where)

    def test_lists_and_dicts_of_a_top_are_only_read(self):
        for name, text in package_files():
            tree = ast.parse(text)
            kept = [node.targets[0].id for node in tree.body
                    if isinstance(node, ast.Assign) and isinstance(node.value, (ast.List, ast.Dict))]
            for parent in ast.walk(tree):
                for node in ast.iter_child_nodes(parent):
                    if isinstance(node, ast.Name) and node.id in kept and isinstance(node.ctx, ast.Load):
                        read = isinstance(parent, (ast.Subscript, ast.Compare, ast.For, ast.comprehension))
                        self.assertTrue(read or called(parent) in ("len", "list", "dict", "sorted"), (name, node.id))
                        self.assertNotIsInstance(getattr(parent, "ctx", None), ast.Store, (name, node.id))

    def test_top_lists_and_dicts_hold_none(self):
        for name, text in package_files():
            for node in ast.parse(text).body:
                if isinstance(node, ast.Assign) and isinstance(node.value, (ast.List, ast.Dict)):
                    inner = [part for part in ast.walk(node.value) if part is not node.value]
                    self.assertFalse(any(isinstance(part, (ast.List, ast.Dict)) for part in inner), name)

    def test_powers_have_written_exponents(self):
        for node, parent, where in nodes_with_parents():
            if isinstance(node, ast.BinOp) and isinstance(node.op, ast.Pow):
                self.assertIsInstance(node.right, ast.Constant, where)
                self.assertIn(node.right.value, range(65), where)

    def test_lambdas_stand_on_unlike_lines(self):
        lines = [where for node, parent, where in nodes_with_parents() if isinstance(node, ast.Lambda)]
        self.assertEqual(len(lines), len(set(lines)))

    def test_methods_are_called_where_they_stand(self):
        for node, parent, where in nodes_with_parents():
            if isinstance(node, ast.Attribute) and node.attr in METHODS:
                self.assertTrue(isinstance(parent, ast.Call) and parent.func is node, where)


if __name__ == "__main__":
    unittest.main()
