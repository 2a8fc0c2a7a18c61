"""The package's files keep to the part of Python that the program is written in.

What a file can be seen to break is looked for here; each test names the rules that it looks at.
"""

import ast
import builtins
import pathlib
import re
import unittest

PACKAGE = pathlib.Path(__file__).resolve().parent.parent / "seamwright"

OWN_NAMES = """
    len range enumerate zip min max sum abs sorted reversed int str bool list tuple dict set frozenset
    isinstance ord repr any all divmod Exception ValueError TypeError KeyError IndexError LookupError
    ZeroDivisionError ArithmeticError OverflowError RuntimeError NotImplementedError AttributeError
    StopIteration
""".split()

METHODS = """
    append clear copy count endswith extend find get index insert isalnum isalpha isdigit islower isspace
    isupper items join keys ljust lower lstrip partition pop remove replace reverse rfind rjust rpartition
    rsplit rstrip setdefault split splitlines startswith strip update upper values zfill bit_length
""".split()

UNUSED_NAMES = """
    register mro elements open input version_info with_traceback add_note attrgetter breakpoint builtins
    compile copyright credits delattr dir eval exec exit gc getattr globals hasattr help id importlib license
    locals methodcaller os quit setattr super type vars sys chr print
""".split()

UNUSED_WORDS = """
    type typing typing_extensions enum Enum IntEnum StrEnum Flag IntFlag Generic Protocol ABC ABCMeta
    namedtuple NamedTuple TypedDict TYPE_CHECKING abstractmethod
""".split()

NODES = """
    Module FunctionDef ClassDef arguments arg Lambda Assign AugAssign If While For Return Break Continue Pass
    Raise Try ExceptHandler Expr ImportFrom alias Name Load Store Constant List Tuple Dict Set BinOp UnaryOp
    BoolOp Compare IfExp Call keyword Attribute Subscript Slice ListComp comprehension JoinedStr
    FormattedValue Add Sub Mult FloorDiv Mod Pow BitAnd BitOr BitXor LShift RShift Invert USub UAdd Not And
    Or Eq NotEq Lt LtE Gt GtE Is IsNot In NotIn
""".split()

KEYWORDS = {
    "sorted": ["key", "reverse"], "min": ["key", "default"], "max": ["key", "default"],
    "sum": ["start"], "enumerate": ["start"], "zip": ["strict"],
}

WALKED_AT_ONCE = ["zip", "enumerate", "reversed", "range"]
WALKERS = ["list", "tuple", "dict", "sorted", "sum", "any", "all", "enumerate", "zip"]


def files():
    return sorted(PACKAGE.glob("*.py"))


def nodes():
    for path in files():
        for node in ast.walk(ast.parse(path.read_text())):
            yield f"{path.name}:{getattr(node, 'lineno', 0)}", node


def drawn_from(path):
    rows = [row for row in ast.parse(path.read_text()).body if isinstance(row, ast.ImportFrom)]
    return [(row.module, name.name) for row in rows for name in row.names]


def called(node):
    return node.func.id if isinstance(node.func, ast.Name) else None


def nodes_and_parents():
    for place, parent in nodes():
        for node in ast.iter_child_nodes(parent):
            yield f"{place}: {ast.dump(node)}", node, parent


def is_walked(node, parent):
    if isinstance(parent, (ast.For, ast.comprehension)):
        return parent.iter is node
    if not isinstance(parent, ast.Call) or parent.args[:1] != [node]:
        return False
    if isinstance(parent.func, ast.Attribute):
        return parent.func.attr == "join" and isinstance(parent.func.value, ast.Constant)
    return called(parent) in WALKERS or called(parent) in ["min", "max"] and len(parent.args) == 1


def is_set(node):
    if isinstance(node, ast.BinOp):
        joined = isinstance(node.op, (ast.Sub, ast.BitAnd, ast.BitOr, ast.BitXor))
        return joined and is_set(node.left) and is_set(node.right)
    return isinstance(node, ast.Set) or isinstance(node, ast.Call) and called(node) in ["set", "frozenset"]


class Files(unittest.TestCase):
    def test_names_of_files(self):
        """L1, L14"""
        for path in PACKAGE.iterdir():
            if path.name != "__pycache__":
                self.assertRegex(path.name, r"^(__init__|__main__|[a-z][a-z0-9_]*)\.py$")
                self.assertNotIn(path.stem, dir(builtins) + UNUSED_WORDS + ["test", "tests", "testing", "site", "conftest"])
                self.assertFalse(path.stem.startswith("test_"))
        self.assertTrue((PACKAGE / "__init__.py").exists())

    def test_signs_and_sizes(self):
        """L10, L14, L17"""
        for path in files():
            text = path.read_bytes().decode("ascii")
            rows = text.split("\n")
            self.assertLessEqual(len(rows) - 1, 400, path.name)
            self.assertRegex(text, r"^[ -~\n]*$", path.name)
            for row in rows:
                self.assertLessEqual(len(row), 120, f"{path.name}: {row}")
            for word in re.findall(r"\w+", text):
                self.assertNotIn(word, UNUSED_WORDS, path.name)
                self.assertNotRegex(word, "dataclass|overload|contextmanager", path.name)

    def test_imports(self):
        """L2, L16"""
        for path in files():
            for module, name in drawn_from(path):
                self.assertRegex(module, r"^seamwright\.[a-z0-9_]+$", path.name)
                source = PACKAGE / (module.split(".")[1] + ".py")
                body = ast.parse(source.read_text()).body
                defined = [row.name for row in body if isinstance(row, (ast.FunctionDef, ast.ClassDef))]
                defined += [row.targets[0].id for row in body if isinstance(row, ast.Assign)]
                self.assertIn(name, defined, f"{path.name} draws it from {module}")

    def test_no_two_files_draw_from_one_another(self):
        """L16"""
        left = {path.stem: {module.split(".")[1] for module, name in drawn_from(path)} for path in files()}
        while left:
            ready = [stem for stem in left if not left[stem] & set(left)]
            self.assertNotEqual(ready, [], f"a ring among {sorted(left)}")
            left = {stem: left[stem] for stem in left if stem not in ready}


class Code(unittest.TestCase):
    def test_statements_and_expressions(self):
        """L4, L6, L7, L21"""
        for place, node in nodes():
            self.assertIn(node.__class__.__name__, NODES, place)
            if isinstance(node, (ast.FunctionDef, ast.ClassDef)):
                self.assertEqual(node.decorator_list, [], place)
            if isinstance(node, ast.FunctionDef):
                self.assertLessEqual(node.end_lineno - node.lineno + 1, 40, place)
                self.assertIsNone(node.returns, place)
            if isinstance(node, ast.arguments):
                self.assertEqual((node.posonlyargs, node.kwonlyargs, node.vararg, node.kwarg), ([], [], None, None), place)
            if isinstance(node, ast.Assign):
                self.assertEqual(len(node.targets), 1, place)
                self.assertNotIsInstance(node.targets[0], (ast.Tuple, ast.List), place)
            if isinstance(node, (ast.For, ast.While)):
                self.assertEqual(node.orelse, [], place)
            if isinstance(node, ast.Try):
                self.assertEqual(node.finalbody, [], place)
            if isinstance(node, ast.ListComp):
                self.assertEqual(len(node.generators), 1, place)
                self.assertLessEqual(len(node.generators[0].ifs), 1, place)

    def test_only_calls_stand_by_themselves(self):
        """L3, L6"""
        for path in files():
            module = ast.parse(path.read_text())
            for node in ast.walk(module):
                if isinstance(node, ast.Expr) and node is not module.body[0]:
                    self.assertIsInstance(node.value, ast.Call, f"{path.name}:{node.lineno}")

    def test_plain_values(self):
        """L7, L27"""
        for place, node in nodes():
            if isinstance(node, ast.Constant):
                self.assertIn(node.value.__class__, [int, str, bool, None.__class__], place)
                self.assertNotIn("%", str(node.value), place)

    def test_names(self):
        """L8, L12, L15, L17"""
        for place, node in nodes():
            names = []
            if isinstance(node, ast.Name):
                names = [node.id]
                if isinstance(node.ctx, ast.Load) and node.id in dir(builtins):
                    self.assertIn(node.id, OWN_NAMES, place)
                if isinstance(node.ctx, ast.Store):
                    self.assertNotIn(node.id, dir(builtins), place)
            if isinstance(node, ast.arg):
                names = [node.arg]
                self.assertNotIn(node.arg, dir(builtins), place)
            if isinstance(node, (ast.FunctionDef, ast.ClassDef)):
                names = [node.name]
                self.assertNotIn(node.name, dir(builtins), place)
            for name in names:
                self.assertRegex(name, r"^[A-Za-z][A-Za-z0-9_]*$", place)
                self.assertNotIn(name, UNUSED_NAMES, place)

    def test_names_at_the_top_and_within(self):
        """L15"""
        for path in files():
            body = ast.parse(path.read_text()).body
            drawn = [name for module, name in drawn_from(path)]
            tops = [row.name for row in body if isinstance(row, (ast.FunctionDef, ast.ClassDef))]
            tops += [row.targets[0].id for row in body if isinstance(row, ast.Assign)] + drawn
            self.assertEqual(len(tops), len(set(tops)), path.name)
            kept = [row.name for row in body if isinstance(row, ast.ClassDef)] + drawn
            for row in body:
                if isinstance(row, ast.FunctionDef):
                    inner = [node.arg for node in ast.walk(row) if isinstance(node, ast.arg)]
                    stored = [node for node in ast.walk(row) if isinstance(node, ast.Name)]
                    inner += [node.id for node in stored if isinstance(node.ctx, ast.Store)]
                    self.assertEqual(set(inner) & set(kept), set(), f"{path.name}: {row.name}")

    def test_methods_and_keywords(self):
        """L22, L25"""
        for place, node in nodes():
            if isinstance(node, ast.Attribute):
                self.assertIn(node.attr, METHODS, place)
            if isinstance(node, ast.Call):
                for keyword in node.keywords:
                    self.assertIn(keyword.arg, KEYWORDS.get(called(node), []), place)

    def test_is_beside_none_true_and_false(self):
        """L20"""
        for place, node in nodes():
            if isinstance(node, ast.Compare) and isinstance(node.ops[0], (ast.Is, ast.IsNot)):
                beside = node.comparators + [node.left]
                plain = [repr(value.value) for value in beside if isinstance(value, ast.Constant)]
                self.assertTrue(set(plain) & {"None", "True", "False"}, place)

    def test_what_is_walked_at_once(self):
        """L23"""
        for place, node, parent in nodes_and_parents():
            method = isinstance(node, ast.Call) and isinstance(node.func, ast.Attribute) and node.func.attr
            if isinstance(node, ast.Call) and (called(node) in WALKED_AT_ONCE or method in ["items", "keys", "values"]):
                self.assertTrue(is_walked(node, parent), place)

    def test_where_sets_stand(self):
        """L24"""
        for place, node, parent in nodes_and_parents():
            if not is_set(node) or is_set(parent):
                continue
            if isinstance(parent, ast.Compare):
                self.assertEqual(len(parent.ops), 1, place)
                alike = isinstance(parent.ops[0], (ast.Eq, ast.NotEq)) and is_set(parent.left) and is_set(parent.comparators[0])
                asked = isinstance(parent.ops[0], (ast.In, ast.NotIn)) and parent.comparators == [node]
                self.assertTrue(alike or asked, place)
            else:
                self.assertIsInstance(parent, ast.Call, place)
                self.assertIn(called(parent), ["sorted", "len"], place)
                self.assertEqual((parent.args, parent.keywords), ([node], []), place)

    def test_written_exponents(self):
        """L27"""
        for place, node in nodes():
            if isinstance(node, ast.BinOp) and isinstance(node.op, ast.Pow):
                self.assertIsInstance(node.right, ast.Constant, place)
                self.assertIn(node.right.value, range(65), place)


if __name__ == "__main__":
    unittest.main()
