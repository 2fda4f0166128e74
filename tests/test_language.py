"""Holds the package to ../shared/LANGUAGE.md, as far as a test sees it; the numbers are those of its rules."""

import ast
import builtins
import re
import unittest
from pathlib import Path

PACKAGE = Path(__file__).resolve().parent.parent / "sumlaw"

OWN_NAMES = set("""len range enumerate zip min max sum abs sorted reversed int str bool list tuple dict set frozenset
isinstance ord repr any all divmod Exception ValueError TypeError KeyError IndexError LookupError ZeroDivisionError
ArithmeticError OverflowError RuntimeError NotImplementedError AttributeError StopIteration""".split())
OWN_METHODS = set("""append clear copy count endswith extend find get index insert isalnum isalpha isdigit islower
isspace isupper items join keys ljust lower lstrip partition pop remove replace reverse rfind rjust rpartition rsplit
rstrip setdefault split splitlines startswith strip update upper values zfill bit_length""".split())
TWO_UNDERSCORES = {"__init__", "__eq__", "__repr__", "__str__", "__len__"}
WORDS = r"""\b(type|typing|typing_extensions|enum|Enum|IntEnum|StrEnum|Flag|IntFlag|Generic|Protocol|ABC|ABCMeta|
namedtuple|NamedTuple|TypedDict|TYPE_CHECKING|abstractmethod)\b|dataclass|overload|contextmanager""".replace("\n", "")
NOT_USED = set("""register mro elements open input version_info with_traceback add_note format format_map attrgetter
breakpoint builtins compile copyright credits delattr dir eval exec exit gc getattr globals hasattr help id importlib
license locals methodcaller os quit setattr super type vars chr sys""".split())
NODES = set("""Module Expr Constant ImportFrom alias FunctionDef ClassDef Return Assign AugAssign If While For Break
Continue Pass Raise Try ExceptHandler Call Name Load Store Attribute Subscript Slice Tuple List Dict BoolOp And Or
UnaryOp Not USub UAdd Invert BinOp Add Sub Mult FloorDiv Mod Pow BitAnd BitOr BitXor LShift RShift Compare Eq NotEq Lt
LtE Gt GtE In NotIn Is IsNot IfExp ListComp comprehension JoinedStr FormattedValue arguments arg Lambda keyword Set
""".split())


def names_of_values():
    """What Python's own values have as a method or a value."""
    kinds = ("", 0, [], {}, set(), b"", ())
    return {name for kind in kinds for name in vars(type(kind))}


class Language(unittest.TestCase):
    def setUp(self):
        self.texts = {path.stem: path.read_bytes() for path in sorted(PACKAGE.glob("*.py"))}
        self.trees = {stem: ast.parse(text) for stem, text in self.texts.items()}
        self.nodes = [(stem, node) for stem, tree in self.trees.items() for node in ast.walk(tree)]

    def of_kind(self, *kinds):
        return [(f"{stem}:{node.lineno}", node) for stem, node in self.nodes if isinstance(node, kinds)]

    def test_files(self):
        """L1, L14"""
        for path in PACKAGE.iterdir():
            if path.name == "__pycache__":
                continue
            self.assertRegex(path.name, r"^([a-z][a-z0-9_]*|__init__|__main__)\.py$")
            self.assertNotIn(path.stem, set(vars(builtins)) - {"__init__"}, path)
            self.assertNotRegex(path.stem, r"^(tests?|testing|test_.*|site|conftest|(site|user)customize)$|" + WORDS)
        self.assertIn("__init__", self.texts)

    def test_signs_and_sizes(self):
        """L10, L14, L17"""
        for stem, text in self.texts.items():
            self.assertTrue(all(sign == 10 or 32 <= sign <= 126 for sign in text), stem)
            rows = text.decode().split("\n")
            self.assertLessEqual(len(rows), 401, stem)
            self.assertLessEqual(max(len(row) for row in rows), 120, stem)
            self.assertIsNone(re.search(WORDS, text.decode()), stem)
        for where, node in self.of_kind(ast.FunctionDef):
            self.assertLessEqual(node.end_lineno - node.lineno + 1, 40, where)

    def test_imports(self):
        """L2, L16"""
        drawn = {stem: set() for stem in self.trees}
        for stem, tree in self.trees.items():
            for node in ast.walk(tree):
                if isinstance(node, ast.ImportFrom) and node.module != "__future__":
                    self.assertIn(node, tree.body)
                    self.assertRegex(node.module, r"^sumlaw\.[a-z0-9_]+$")
                    source = node.module.split(".")[1]
                    drawn[stem].add(source)
                    there = {one.name for one in self.trees[source].body if hasattr(one, "name")}
                    for one in node.names:
                        self.assertIn(one.name, there)
                        self.assertIsNone(one.asname)
        self.assertEqual(drawn["__init__"], set())
        while drawn:
            ready = [stem for stem, sources in drawn.items() if not sources & set(drawn)]
            self.assertTrue(ready, drawn)
            drawn = {stem: sources for stem, sources in drawn.items() if stem not in ready}

    def test_top_of_a_module(self):
        """L3, L15"""
        for stem, tree in self.trees.items():
            bound = []
            for node in tree.body[1:]:
                self.assertIsInstance(node, (ast.ImportFrom, ast.FunctionDef, ast.ClassDef, ast.Assign), stem)
                if isinstance(node, ast.Assign):
                    bound.append(node.targets[0].id)
                elif isinstance(node, ast.ImportFrom):
                    bound.extend(one.name for one in node.names)
                else:
                    bound.append(node.name)
            self.assertIsNotNone(ast.get_docstring(tree), stem)
            self.assertEqual(len(bound), len(set(bound)), stem)

    def test_statements_and_expressions(self):
        """L4, L6, L7, L20, L21, L27"""
        for stem, node in self.nodes:
            self.assertIn(type(node).__name__, NODES, (stem, getattr(node, "lineno", None)))
        for where, node in self.of_kind(ast.Assign):
            self.assertEqual(len(node.targets), 1, where)
        for where, node in self.of_kind(ast.For, ast.While, ast.Try):
            self.assertFalse(node.orelse and not isinstance(node, ast.Try), where)
            self.assertFalse(getattr(node, "finalbody", None), where)
        for where, node in self.of_kind(ast.Constant):
            self.assertIsInstance(node.value, (int, str, bool, type(None)), where)
            self.assertFalse(isinstance(node.value, str) and "%" in node.value, where)
        for where, node in self.of_kind(ast.ListComp):
            self.assertEqual(len(node.generators), 1, where)
            self.assertLessEqual(len(node.generators[0].ifs), 1, where)
        for where, node in self.of_kind(ast.FormattedValue):
            self.assertIsInstance(node.value, ast.Name, where)
        for where, node in self.of_kind(ast.BinOp):
            if isinstance(node.op, ast.Pow):
                self.assertIn(getattr(node.right, "value", None), range(65), where)
        for where, node in self.of_kind(ast.Compare):
            if isinstance(node.ops[0], (ast.Is, ast.IsNot)):
                self.assertIn(getattr(node.comparators[0], "value", 0), (None, True, False), where)

    def test_functions_and_classes(self):
        """L4, L5, L18, L21"""
        methods = set()
        for where, node in self.of_kind(ast.FunctionDef, ast.Lambda):
            rest = node.args
            self.assertFalse(rest.vararg or rest.kwarg or rest.kwonlyargs or rest.posonlyargs, where)
            self.assertFalse(getattr(node, "decorator_list", None) or getattr(node, "returns", None), where)
        for where, node in self.of_kind(ast.ClassDef):
            self.assertLessEqual(len(node.bases), 1, where)
            self.assertFalse(node.decorator_list or node.keywords, where)
            for part in node.body[1:]:
                self.assertIsInstance(part, ast.FunctionDef, where)
            own = [part.name for part in node.body if isinstance(part, ast.FunctionDef)]
            self.assertEqual(len(own), len(set(own)), where)
            methods.update(own)
        kept = {node.attr for where, node in self.of_kind(ast.Attribute) if isinstance(node.ctx, ast.Store)}
        self.assertEqual(methods & kept, set())
        taken = names_of_values() - TWO_UNDERSCORES - OWN_METHODS - {"add", "discard", "title"}
        self.assertEqual((methods | kept) & taken, set())
        for where, node in self.of_kind(ast.Attribute):
            self.assertIn(node.attr, methods | kept | OWN_METHODS, where)

    def test_names(self):
        """L8, L12, L15, L17"""
        for stem, tree in self.trees.items():
            imports = {one.name for node in tree.body if isinstance(node, ast.ImportFrom) for one in node.names}
            classes = {node.name for node in tree.body if isinstance(node, ast.ClassDef)}
            tops = {node.name for node in tree.body if isinstance(node, (ast.FunctionDef, ast.ClassDef))}
            tops |= {node.targets[0].id for node in tree.body if isinstance(node, ast.Assign)}
            nodes = list(ast.walk(tree))
            local = {node.arg for node in nodes if isinstance(node, ast.arg)}
            local |= {node.name for node in nodes if isinstance(node, ast.ExceptHandler) and node.name}
            inner = {node.name for node in nodes if isinstance(node, ast.FunctionDef)}
            names = [node for node in nodes if isinstance(node, ast.Name)]
            stored = {node.id for node in names if isinstance(node.ctx, ast.Store)}
            read = {node.id for node in names}
            for name in local | stored | tops:
                self.assertRegex(name, r"^[A-Za-z][A-Za-z0-9_]*$", stem)
                self.assertNotIn(name, vars(builtins), stem)
                self.assertNotIn(name, NOT_USED, stem)
            self.assertEqual((local | stored) & (imports | classes), set(), stem)
            self.assertEqual(read - local - stored - inner - tops - imports - OWN_NAMES, set(), stem)
        for where, node in self.of_kind(ast.FunctionDef):
            if node.name not in TWO_UNDERSCORES:
                self.assertRegex(node.name, r"^[A-Za-z][A-Za-z0-9_]*$", where)
                self.assertNotIn(node.name, NOT_USED, where)

    def test_sets(self):
        """L24"""
        right = set()
        for where, node in self.of_kind(ast.Call):
            if getattr(node.func, "id", None) in ("sorted", "len"):
                right.update(id(one) for one in ast.walk(node))
        for where, node in self.of_kind(ast.Compare):
            right.update(id(one) for one in ast.walk(node))
        for where, node in self.of_kind(ast.Call):
            if getattr(node.func, "id", None) in ("set", "frozenset"):
                self.assertIn(id(node), right, where)


if __name__ == "__main__":
    unittest.main()
