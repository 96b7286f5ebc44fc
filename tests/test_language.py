"""The rules of LANGUAGE.md that can be seen in a file's text or tree."""

import ast
import builtins
import pathlib
import re
import unittest

PACKAGE = pathlib.Path(__file__).resolve().parent.parent / "crossracks"

BUILTINS = set(
    "len range enumerate zip min max sum abs sorted reversed int str bool list tuple dict set frozenset isinstance ord "
    "repr any all divmod Exception ValueError TypeError KeyError IndexError LookupError ZeroDivisionError "
    "ArithmeticError OverflowError RuntimeError NotImplementedError AttributeError StopIteration".split())
METHODS = set(
    "append clear copy count endswith extend find get index insert isalnum isalpha isdigit islower isspace isupper "
    "items join keys ljust lower lstrip partition pop remove replace reverse rfind rjust rpartition rsplit rstrip "
    "setdefault split splitlines startswith strip update upper values zfill bit_length".split())
DUNDERS = {"__init__", "__eq__", "__repr__", "__str__", "__len__"}
UNUSED_NAMES = set(
    "register mro elements open input version_info with_traceback add_note attrgetter breakpoint builtins compile "
    "copyright credits delattr dir eval exec exit gc getattr globals hasattr help id importlib license locals "
    "methodcaller os quit setattr super type vars sys format format_map".split())
UNUSED_WORDS = re.compile(
    r"\b(type|typing|typing_extensions|enum|Enum|IntEnum|StrEnum|Flag|IntFlag|Generic|Protocol|ABC|ABCMeta|namedtuple|"
    r"NamedTuple|TypedDict|TYPE_CHECKING|abstractmethod)\b|dataclass|overload|contextmanager")
BAD_FILES = {"test", "tests", "testing", "site", "conftest", "sitecustomize", "usercustomize", "typing", "enum"}
NODES = tuple(getattr(ast, name) for name in (
    "Module ImportFrom alias FunctionDef ClassDef arguments arg Lambda Assign AugAssign If While For Return Break "
    "Continue Pass Raise Try ExceptHandler Expr Constant List Tuple Dict Set BinOp UnaryOp BoolOp Compare IfExp Call "
    "keyword Attribute Subscript Slice ListComp comprehension JoinedStr FormattedValue Name Load Store "
    "operator unaryop boolop cmpop").split())
NO_NODES = (ast.Div, ast.MatMult)


def files():
    return sorted(path for path in PACKAGE.rglob("*") if "__pycache__" not in path.parts)


def trees():
    return [(path.name, ast.parse(path.read_text(encoding="utf-8"))) for path in files()]


def nodes(*kinds):
    """Tuples (where, node) of all nodes of these kinds in the package."""
    for name, tree in trees():
        for node in ast.walk(tree):
            if isinstance(node, kinds):
                yield f"{name}:{getattr(node, 'lineno', 0)}", node


def own_attributes():
    methods = {child.name for _, node in nodes(ast.ClassDef) for child in node.body
               if isinstance(child, ast.FunctionDef)}
    values = {node.attr for _, node in nodes(ast.Attribute) if isinstance(node.ctx, ast.Store)}
    return methods, values


def with_parents(tree):
    """Tuples (node, parent) of all nodes of a tree."""
    return [(child, node) for node in ast.walk(tree) for child in ast.iter_child_nodes(node)]


def called_name(node):
    """The plain name that a node calls, or the text without signs."""
    return getattr(node.func, "id", "") if isinstance(node, ast.Call) else ""


def is_walked_at_once(node, parent):
    if isinstance(parent, (ast.For, ast.comprehension)):
        return node is parent.iter
    if called_name(parent) in ("list", "tuple", "dict", "sorted", "sum", "any", "all", "enumerate"):
        return node is parent.args[0]
    return called_name(parent) == "zip" or called_name(parent) in ("min", "max") and parent.args == [node]


class Texts(unittest.TestCase):
    def test_files_and_names(self):  # L1, L14
        self.assertTrue((PACKAGE / "__init__.py").is_file())
        for path in files():
            stem = path.stem
            self.assertTrue(path.is_file() and path.suffix == ".py", path)
            if stem in ("__init__", "__main__"):
                continue
            self.assertRegex(stem, "^[a-z][a-z0-9_]*$")
            self.assertFalse(stem in BAD_FILES or stem.startswith("test_") or hasattr(builtins, stem), path)

    def test_signs_and_sizes(self):  # L10, L14
        for path in files():
            text = path.read_bytes().decode("ascii")
            rows = text.split("\n")
            self.assertEqual([sign for sign in text if sign != "\n" and not " " <= sign <= "~"], [], path)
            self.assertLessEqual(len(rows), 400, path)
            self.assertLessEqual(max(len(row) for row in rows), 120, path)

    def test_words_that_stand_nowhere(self):  # L17
        for path in files():
            self.assertIsNone(UNUSED_WORDS.search(path.read_text(encoding="utf-8")), path)


class Trees(unittest.TestCase):
    def test_forms(self):  # L6, L7, L21
        for where, node in nodes(ast.AST):
            self.assertIsInstance(node, NODES, where)
            self.assertNotIsInstance(node, NO_NODES, where)

    def test_the_top_of_a_module(self):  # L3, L15
        for name, tree in trees():
            self.assertIsInstance(ast.get_docstring(tree), str, name)
            for node in tree.body[1:]:
                self.assertIsInstance(node, (ast.ImportFrom, ast.FunctionDef, ast.ClassDef, ast.Assign), name)
            bound = [node.name for node in tree.body if hasattr(node, "name")]
            bound += [node.targets[0].id for node in tree.body if isinstance(node, ast.Assign)]
            bound += [one.name for node in tree.body if isinstance(node, ast.ImportFrom) for one in node.names]
            self.assertEqual(len(bound), len(set(bound)), name)

    def test_imports(self):  # L2, L16
        defined = {name[:-3]: {node.name for node in tree.body if hasattr(node, "name")}
                   | {node.targets[0].id for node in tree.body if isinstance(node, ast.Assign)}
                   for name, tree in trees()}
        drawn = {name: set() for name in defined}
        for where, node in nodes(ast.ImportFrom):
            package, _, file = node.module.partition(".")
            self.assertEqual((package, node.level), ("crossracks", 0), where)
            for one in node.names:
                self.assertIn(one.name, defined[file], where)
            drawn[where.partition(".")[0]].add(file)
        while drawn:
            leaves = [name for name, others in drawn.items() if not others & set(drawn)]
            self.assertTrue(leaves, f"these draw from one another: {sorted(drawn)}")
            drawn = {name: others for name, others in drawn.items() if name not in leaves}

    def test_functions(self):  # L4, L10
        for where, node in nodes(ast.FunctionDef):
            self.assertLessEqual(node.end_lineno - node.lineno + 1, 40, where)
            self.assertEqual(node.decorator_list, [], where)
            self.assertIsNone(node.returns, where)
        for where, node in nodes(ast.arguments):
            self.assertEqual((node.posonlyargs, node.vararg, node.kwonlyargs, node.kwarg), ([], None, [], None), where)
            self.assertEqual([one.annotation for one in node.args if one.annotation], [], where)

    def test_classes(self):  # L5, L18, L26
        for where, node in nodes(ast.ClassDef):
            self.assertEqual((node.decorator_list, node.keywords), ([], []), where)
            self.assertLessEqual(len(node.bases), 1, where)
            for child in node.body:
                self.assertIsInstance(child, (ast.FunctionDef, ast.Pass), where)
        methods, values = own_attributes()
        self.assertEqual(methods & values, set())
        self.assertEqual(values & METHODS - {"count", "index", "find", "get", "join", "lower", "upper", "split",
                                             "strip", "copy"}, set())

    def test_statements(self):  # L6
        for where, node in nodes(ast.Assign):
            self.assertEqual(len(node.targets), 1, where)
        for where, node in nodes(ast.For, ast.While):
            self.assertEqual(node.orelse, [], where)
        for name, tree in trees():
            for node in ast.walk(tree):
                if isinstance(node, ast.Expr) and node is not tree.body[0]:
                    self.assertIsInstance(node.value, ast.Call, f"{name}:{node.lineno}")

    def test_errors(self):  # L19
        for where, node in nodes(ast.Try):
            self.assertEqual(node.finalbody, [], where)
        for where, node in nodes(ast.ExceptHandler):
            self.assertIsNotNone(node.type, where)
            taken = {one.id for one in ast.walk(node.type) if isinstance(one, ast.Name)}
            self.assertFalse(taken & {"Exception", "TypeError"}, where)
        for where, node in nodes(ast.Raise):
            self.assertIsInstance(node.exc, ast.Call, where)

    def test_names(self):  # L8, L12, L15, L17
        methods, values = own_attributes()
        for where, node in nodes(ast.Name, ast.arg, ast.FunctionDef, ast.ClassDef):
            name = getattr(node, "id", None) or getattr(node, "arg", None) or node.name
            if name in DUNDERS:
                continue
            self.assertRegex(name, "^[A-Za-z][A-Za-z0-9_]*$", where)
            self.assertNotIn(name, UNUSED_NAMES, where)
            if isinstance(node, ast.Name) and isinstance(node.ctx, ast.Load):
                self.assertFalse(hasattr(builtins, name) and name not in BUILTINS, where)
            elif name not in methods:
                self.assertFalse(hasattr(builtins, name), where)

    def test_attributes(self):  # L17, L25
        methods, values = own_attributes()
        for where, node in nodes(ast.Attribute):
            self.assertIn(node.attr, METHODS | methods | values, where)
            self.assertNotIn(node.attr, UNUSED_NAMES, where)

    def test_values(self):  # L7, L27
        for where, node in nodes(ast.Constant):
            self.assertTrue(node.value is None or isinstance(node.value, (bool, int, str)), where)
            self.assertNotIn("%", str(node.value), where)
        for where, node in nodes(ast.BinOp):
            if isinstance(node.op, ast.Pow):
                self.assertIn(getattr(node.right, "value", None), range(65), where)
        for where, node in nodes(ast.FormattedValue):
            self.assertIsInstance(node.value, ast.Name, where)
            self.assertIn(node.conversion, (-1, ord("r")), where)
            self.assertIsNone(node.format_spec, where)

    def test_expressions(self):  # L7, L20
        for where, node in nodes(ast.ListComp):
            self.assertEqual(len(node.generators), 1, where)
            self.assertLessEqual(len(node.generators[0].ifs), 1, where)
        for where, node in nodes(ast.Compare):
            if any(isinstance(one, (ast.Is, ast.IsNot)) for one in node.ops):
                sides = [node.left] + node.comparators
                self.assertTrue(any(isinstance(one, ast.Constant) and one.value in (None, True, False)
                                    for one in sides), where)

    def test_no_local_is_called_like_a_class_or_an_import(self):  # L15
        for name, tree in trees():
            taken = {node.name for node in tree.body if isinstance(node, ast.ClassDef)}
            taken |= {one.name for node in tree.body if isinstance(node, ast.ImportFrom) for one in node.names}
            for node in ast.walk(tree):
                if isinstance(node, ast.arg) or isinstance(node, ast.Name) and isinstance(node.ctx, ast.Store):
                    bound = getattr(node, "id", None) or node.arg
                    self.assertNotIn(bound, taken, f"{name}:{node.lineno}")

    def test_classes_are_not_handed_on(self):  # L18
        classes = {node.name for where, node in nodes(ast.ClassDef)}
        for name, tree in trees():
            for node, parent in with_parents(tree):
                if isinstance(node, ast.Name) and node.id in classes:
                    fine = isinstance(parent, (ast.ClassDef, ast.ExceptHandler))
                    fine = fine or isinstance(parent, ast.Call) and node is parent.func
                    # A base's own making (L28).
                    fine = fine or isinstance(parent, ast.Attribute) and parent.attr == "__init__"
                    fine = fine or called_name(parent) == "isinstance" and node is parent.args[1]
                    self.assertTrue(fine, f"{name}:{node.lineno}")

    def test_methods_with_two_underscores(self):  # L28
        for where, node in nodes(ast.ClassDef):
            for child in node.body:
                if getattr(child, "name", "").startswith("__"):
                    self.assertEqual(child.name, "__init__", where)
                    self.assertEqual([one for one in ast.walk(child) if isinstance(one, ast.Return)], [], where)
        for where, node in nodes(ast.Call):
            if getattr(node.func, "attr", "") == "__init__":
                self.assertEqual(node.args[0].id, "self", where)

    def test_lambdas_on_one_line(self):  # L13
        rows = [where for where, node in nodes(ast.Lambda)]
        self.assertEqual(len(rows), len(set(rows)))

    def test_keywords(self):  # L22
        allowed = {"sorted": {"key", "reverse"}, "min": {"key", "default"}, "max": {"key", "default"},
                   "sum": {"start"}, "enumerate": {"start"}, "zip": {"strict"}}
        for where, node in nodes(ast.Call):
            called = called_name(node)
            if called in BUILTINS or isinstance(node.func, ast.Attribute) and node.func.attr in METHODS:
                self.assertLessEqual({one.arg for one in node.keywords}, allowed.get(called, set()), where)

    def test_walked_at_once(self):  # L23
        for name, tree in trees():
            for node, parent in with_parents(tree):
                if isinstance(node, ast.Call):
                    walked = called_name(node) in ("zip", "enumerate", "reversed", "range")
                    if walked or getattr(node.func, "attr", "") in ("items", "keys", "values"):
                        self.assertTrue(is_walked_at_once(node, parent), f"{name}:{node.lineno}")

    def test_sets_stand_on_the_spot(self):  # L24
        for name, tree in trees():
            allowed = set()
            for node in ast.walk(tree):
                if isinstance(node, ast.Compare):
                    allowed |= {id(one) for one in ast.walk(node)}
                if isinstance(node, ast.Call) and getattr(node.func, "id", "") in ("sorted", "len"):
                    if not node.keywords:
                        allowed |= {id(one) for one in ast.walk(node.args[0])}
            for node in ast.walk(tree):
                if isinstance(node, ast.Set) or isinstance(node, ast.Call) and getattr(node.func, "id", "") == "set":
                    self.assertIn(id(node), allowed, f"{name}:{node.lineno}")


if __name__ == "__main__":
    unittest.main()
