"""The package's files keep to the small part of Python that they are to be written in."""

import ast
import builtins
import pathlib
import re
import unittest

PACKAGE = pathlib.Path(__file__).resolve().parent.parent / "pinchannel"
FILES = sorted(PACKAGE.rglob("*.py"))

ALLOWED_NODES = tuple(getattr(ast, name) for name in """
    Module Expr Constant ImportFrom alias FunctionDef arguments arg Return ClassDef Assign AugAssign Name Load Store
    If While For Break Continue Pass Raise Try ExceptHandler Call keyword Attribute Subscript Slice List Tuple Dict Set
    ListComp comprehension BinOp UnaryOp BoolOp Compare IfExp Lambda JoinedStr FormattedValue
    Add Sub Mult FloorDiv Mod Pow BitAnd BitOr BitXor LShift RShift Invert USub Not And Or
    Eq NotEq Lt LtE Gt GtE Is IsNot In NotIn""".split())
OWN_NAMES = set("""
    len range enumerate zip min max sum abs sorted reversed int str bool list tuple dict set frozenset isinstance ord
    repr any all divmod Exception ValueError TypeError KeyError IndexError LookupError ZeroDivisionError
    ArithmeticError OverflowError RuntimeError NotImplementedError AttributeError StopIteration""".split())
OWN_METHODS = set("""
    append clear copy count endswith extend find get index insert isalnum isalpha isdigit islower isspace isupper items
    join keys ljust lower lstrip partition pop remove replace reverse rfind rjust rpartition rsplit rstrip setdefault
    split splitlines startswith strip update upper values zfill bit_length""".split())
WORDS_NOWHERE = set("""
    type typing typing_extensions enum Enum IntEnum StrEnum Flag IntFlag Generic Protocol ABC ABCMeta namedtuple
    NamedTuple TypedDict TYPE_CHECKING abstractmethod""".split())
PARTS_NOWHERE = ("dataclass", "overload", "contextmanager")
KEYWORDS = {"sorted": {"key", "reverse"}, "min": {"key", "default"}, "max": {"key", "default"},
            "sum": {"start"}, "enumerate": {"start"}, "zip": {"strict"}}
WALKED_AT_ONCE = {"zip", "enumerate", "reversed", "range", "items", "keys", "values"}
WALKERS = {"list", "tuple", "dict", "sorted", "sum", "any", "all", "enumerate", "zip", "min", "max", "join"}
CHANGING = {"append", "clear", "extend", "insert", "pop", "remove", "reverse", "setdefault", "update"}


def module_of(path):
    parts = path.relative_to(PACKAGE.parent).with_suffix("").parts
    return ".".join(part for part in parts if part != "__init__")


TREES = {module_of(path): ast.parse(path.read_text()) for path in FILES}


def walk(kind):
    for module, tree in TREES.items():
        for node in ast.walk(tree):
            if isinstance(node, kind):
                yield f"{module}:{getattr(node, 'lineno', 0)}", node


def top_names(tree):
    for node in tree.body:
        if isinstance(node, (ast.FunctionDef, ast.ClassDef)):
            yield node.name
        if isinstance(node, ast.Assign):
            yield node.targets[0].id


def called(node):
    """The name of what is called, or None."""
    if not isinstance(node, ast.Call):
        return None
    return node.func.attr if isinstance(node.func, ast.Attribute) else node.func.id


class LanguageTest(unittest.TestCase):
    def test_files(self):
        for path in PACKAGE.rglob("*"):
            if path.name != "__pycache__" and path.parent.name != "__pycache__":
                self.assertRegex(path.name, r"^(__init__|[a-z][a-z0-9_]*)\.py$")
                self.assertNotIn(path.stem, set(dir(builtins)) - {"__init__"}, path)

    def test_signs_words_and_size(self):
        for path in FILES:
            text = path.read_text()
            self.assertRegex(text, r"\A[\n -~]*\Z", path)
            lines = text.split("\n")
            self.assertLessEqual(len(lines), 400, path)
            self.assertLessEqual(max(map(len, lines)), 120, path)
            self.assertFalse(WORDS_NOWHERE & set(re.findall(r"\w+", text)), path)
            self.assertFalse([part for part in PARTS_NOWHERE if part in text], path)
        for where, node in walk(ast.FunctionDef):
            self.assertLessEqual(node.end_lineno - node.lineno + 1, 40, where)

    def test_nodes(self):
        for where, node in walk(ast.AST):
            self.assertIsInstance(node, ALLOWED_NODES, where)
        for where, node in walk(ast.Constant):
            self.assertIsInstance(node.value, (int, str, type(None)), where)
        for where, node in walk((ast.For, ast.While)):
            self.assertFalse(node.orelse, where)
        for where, node in walk(ast.Assign):
            self.assertEqual(len(node.targets), 1, where)
        for where, node in walk(ast.ListComp):
            self.assertEqual(len(node.generators), 1, where)
            self.assertLessEqual(len(node.generators[0].ifs), 1, where)
        for where, node in walk(ast.FormattedValue):
            self.assertIsInstance(node.value, ast.Name, where)

    def test_top_of_modules(self):
        for module, tree in TREES.items():
            self.assertIsNotNone(ast.get_docstring(tree), module)
            for node in tree.body[1:]:
                self.assertIsInstance(node, (ast.ImportFrom, ast.FunctionDef, ast.ClassDef, ast.Assign), module)
            names = list(top_names(tree))
            self.assertEqual(len(names), len(set(names)), module)

    def test_imports(self):
        drawn = {module: set() for module in TREES}
        for module, tree in TREES.items():
            for node in ast.walk(tree):
                if isinstance(node, ast.ImportFrom):
                    self.assertEqual(node.level, 0, module)
                    self.assertLessEqual({name.name for name in node.names}, set(top_names(TREES[node.module])))
                    drawn[module] |= {node.module, PACKAGE.name}
        for step in drawn:
            for module in drawn:
                drawn[module] |= set().union(*[drawn[other] for other in drawn[module]])
        self.assertFalse([module for module in drawn if module in drawn[module]])

    def test_names(self):
        for where, node in walk((ast.Name, ast.arg, ast.FunctionDef, ast.ClassDef, ast.Attribute)):
            name = getattr(node, "id", None) or getattr(node, "arg", None) or getattr(node, "attr", None) or node.name
            if name != "__init__":
                self.assertRegex(name, r"^[A-Za-z][A-Za-z0-9_]*$", where)
        for where, node in walk(ast.Name):
            if isinstance(node.ctx, ast.Store):
                self.assertFalse(hasattr(builtins, node.id), where)
            elif hasattr(builtins, node.id):
                self.assertIn(node.id, OWN_NAMES, where)
        for where, node in walk(ast.arg):
            self.assertFalse(hasattr(builtins, node.arg), where)

    def test_functions(self):
        for where, node in walk(ast.FunctionDef):
            self.assertFalse(node.decorator_list, where)
            self.assertIsNone(node.args.vararg or node.args.kwarg, where)
            self.assertFalse(node.args.kwonlyargs + node.args.posonlyargs, where)

    def test_classes(self):
        methods = set()
        for where, node in walk(ast.ClassDef):
            self.assertFalse(node.decorator_list + node.keywords, where)
            self.assertLessEqual(len(node.bases), 1, where)
            for part in node.body:
                is_text = isinstance(part, ast.Expr) and isinstance(part.value, ast.Constant)
                self.assertTrue(is_text or isinstance(part, ast.FunctionDef), where)
                if not is_text:
                    methods.add(part.name)
        stored = {node.attr for where, node in walk(ast.Attribute) if isinstance(node.ctx, ast.Store)}
        self.assertFalse(stored & methods)
        python_own = set(dir(str) + dir(int) + dir(list) + dir(dict) + dir(set) + dir(bytes))
        self.assertFalse((stored | methods) & python_own - {"__init__"})

    def test_calls(self):
        own = {node.name for where, node in walk(ast.FunctionDef)}
        for where, node in walk(ast.Call):
            if isinstance(node.func, ast.Attribute):
                self.assertIn(node.func.attr, OWN_METHODS | own, where)
                self.assertFalse(node.keywords, where)
            elif hasattr(builtins, node.func.id):
                self.assertLessEqual({k.arg for k in node.keywords}, KEYWORDS.get(node.func.id, set()), where)

    def test_walked_at_once(self):
        walked = set()
        for where, node in walk((ast.For, ast.comprehension)):
            walked.add(node.iter)
        for where, node in walk(ast.Call):
            if called(node) in WALKERS:
                walked.update(node.args)
        for where, node in walk(ast.Call):
            if called(node) in WALKED_AT_ONCE:
                self.assertIn(node, walked, where)

    def test_what_a_loop_walks_stays(self):
        for where, node in walk(ast.For):
            walked = {ast.unparse(part) for part in ast.walk(node.iter) if isinstance(part, (ast.Name, ast.Attribute))}
            if called(node.iter) == "range":
                walked = set()
            for part in [part for statement in node.body for part in ast.walk(statement)]:
                if isinstance(part, ast.Subscript) and isinstance(part.ctx, ast.Store):
                    self.assertNotIn(ast.unparse(part.value), walked, where)
                if isinstance(part, ast.Call) and called(part) in CHANGING and isinstance(part.func, ast.Attribute):
                    self.assertNotIn(ast.unparse(part.func.value), walked, where)

    def test_locals_are_not_called_like_classes_or_imports(self):
        for module, tree in TREES.items():
            taken = {node.name for node in tree.body if isinstance(node, ast.ClassDef)}
            taken |= {name.name for node in tree.body if isinstance(node, ast.ImportFrom) for name in node.names}
            for node in ast.walk(tree):
                if isinstance(node, ast.arg):
                    self.assertNotIn(node.arg, taken, module)
                if isinstance(node, ast.Name) and isinstance(node.ctx, ast.Store):
                    self.assertNotIn(node.id, taken, module)

    def test_values_of_a_file_are_plain_and_not_changed(self):
        for module, tree in TREES.items():
            for node in tree.body:
                if isinstance(node, ast.Assign):
                    self.assertIsInstance(node.value, (ast.Constant, ast.UnaryOp, ast.Tuple), module)

    def test_no_sets_no_powers_and_no_percent_signs_in_texts(self):
        for where, node in walk(ast.Call):
            self.assertNotIn(called(node), ("set", "frozenset", "chr"), where)
        for where, node in walk(ast.AST):
            self.assertNotIsInstance(node, (ast.Set, ast.Pow), where)
        for where, node in walk(ast.Constant):
            self.assertFalse(isinstance(node.value, str) and "%" in node.value, where)

    def test_is(self):
        for where, node in walk(ast.Compare):
            for sign, value in zip(node.ops, node.comparators):
                if isinstance(sign, (ast.Is, ast.IsNot)):
                    self.assertIsInstance(value, ast.Constant, where)


if __name__ == "__main__":
    unittest.main()
