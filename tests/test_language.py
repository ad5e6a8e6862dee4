"""Those of the language's rules that can be looked at row by row, over every file of the package."""

import ast
import builtins
import pathlib
import re
import unittest

PACKAGE = pathlib.Path(__file__).resolve().parent.parent / "slate"

NODES = (
    "Module Import ImportFrom alias FunctionDef Lambda ClassDef arguments arg Assign AugAssign If While For Return Break "
    "Continue Pass Raise Try ExceptHandler Expr Constant List Tuple Dict Name Load Store BinOp Add Sub Mult FloorDiv Mod "
    "Pow LShift RShift BitOr BitXor BitAnd UnaryOp USub UAdd Invert Not BoolOp And Or Compare Eq NotEq Lt LtE Gt GtE Is "
    "IsNot In NotIn IfExp Call keyword Attribute Subscript Slice ListComp comprehension JoinedStr FormattedValue"
).split()

BUILT_IN = (
    "len range enumerate zip min max sum abs sorted reversed int str bool list tuple dict set frozenset isinstance ord "
    "repr any all divmod Exception ValueError TypeError KeyError IndexError LookupError ZeroDivisionError ArithmeticError "
    "OverflowError RuntimeError NotImplementedError AttributeError StopIteration"
).split()

METHODS = (
    "append clear copy count endswith extend find get index insert isalnum isalpha isdigit islower isspace isupper items "
    "join keys ljust lower lstrip partition pop remove replace reverse rfind rjust rpartition rsplit rstrip setdefault "
    "split splitlines startswith strip update upper values zfill bit_length __init__"
).split()

UNUSED = (
    "register mro elements open input version_info with_traceback add_note attrgetter breakpoint builtins compile "
    "copyright credits delattr dir eval exec exit gc getattr globals hasattr help id importlib license locals "
    "methodcaller os quit setattr super vars sys __name__"
).split()

UNSAID = (
    "type typing typing_extensions enum Enum IntEnum StrEnum Flag IntFlag Generic Protocol ABC ABCMeta namedtuple "
    "NamedTuple TypedDict TYPE_CHECKING abstractmethod"
).split()

UNSAID_WITHIN = ("dataclass", "overload", "contextmanager")

SPECIAL = ("__init__", "__eq__", "__repr__", "__str__", "__len__")

KEYWORDS = {"sorted": ("key", "reverse"), "min": ("key", "default"), "max": ("key", "default"), "sum": ("start",),
            "enumerate": ("start",), "zip": ("strict",)}

WALKED = ("zip", "enumerate", "reversed", "range")

WALKED_METHODS = ("items", "keys", "values")

CHANGES = ("append", "clear", "extend", "insert", "pop", "remove", "reverse", "setdefault", "update")

WALKERS = ("list", "tuple", "dict", "sorted", "sum", "any", "all", "enumerate", "zip", "min", "max")


def told_names(tree):
    """Every name that a file binds or draws, at its top or within."""
    found = []
    for node in ast.walk(tree):
        if isinstance(node, (ast.FunctionDef, ast.ClassDef)):
            found.append(node.name)
        elif isinstance(node, ast.arg):
            found.append(node.arg)
        elif isinstance(node, ast.Name) and isinstance(node.ctx, ast.Store):
            found.append(node.id)
        elif isinstance(node, ast.alias):
            found.append(node.name)
        elif isinstance(node, ast.ExceptHandler) and node.name:
            found.append(node.name)
    return found


def top_names(tree):
    found = []
    for node in tree.body:
        if isinstance(node, (ast.FunctionDef, ast.ClassDef)):
            found.append(node.name)
        elif isinstance(node, ast.Assign):
            found.extend([target.id for target in node.targets])
        elif isinstance(node, ast.ImportFrom):
            found.extend([alias.name for alias in node.names])
    return found


def called(node):
    """The name by which a call calls, of a function or of a method."""
    return node.func.attr if isinstance(node.func, ast.Attribute) else ast.unparse(node.func)


def is_plain(node, functions):
    """Whether this may be the value of a name at a file's top."""
    if isinstance(node, ast.Dict):
        return all(is_plain(part, functions) for part in node.keys + node.values)
    if isinstance(node, (ast.List, ast.Tuple)):
        return all(is_plain(part, functions) for part in node.elts)
    if isinstance(node, ast.UnaryOp):
        return isinstance(node.op, ast.USub) and isinstance(node.operand, ast.Constant)
    return isinstance(node, ast.Constant) or (isinstance(node, ast.Name) and node.id in functions)


def walked_on_the_spot(tree):
    """Every expression of a file that stands where it is walked at once."""
    found = []
    for node in ast.walk(tree):
        if isinstance(node, (ast.For, ast.comprehension)):
            found.append(node.iter)
        elif isinstance(node, ast.Call) and (called(node) in WALKERS or called(node) == "join"):
            found.extend(node.args[:1])
    return found


def walked_things(node):
    """What a loop walks, itself or through enumerate, zip, reversed, items and their like, as it is written."""
    if not isinstance(node, ast.Call):
        return [ast.unparse(node)]
    if isinstance(node.func, ast.Attribute):
        return [ast.unparse(node.func.value)] if node.func.attr in WALKED_METHODS else []
    return [thing for part in node.args for thing in walked_things(part)] if called(node) in WALKED else []


def changed_things(loop):
    """What is changed in a loop by an index or by a call, as it is written."""
    found = []
    for node in ast.walk(loop):
        if isinstance(node, ast.Subscript) and isinstance(node.ctx, ast.Store):
            found.append(ast.unparse(node.value))
        elif isinstance(node, ast.Call) and isinstance(node.func, ast.Attribute) and node.func.attr in CHANGES:
            found.append(ast.unparse(node.func.value))
    return found


class Language(unittest.TestCase):
    def setUp(self):
        self.texts = {path.name: path.read_text(encoding="utf-8") for path in PACKAGE.glob("*.py")}
        self.trees = {name: ast.parse(text) for name, text in self.texts.items()}
        self.assertIn("__init__.py", self.texts)

    def nodes(self, *kinds):
        for name, tree in self.trees.items():
            for node in ast.walk(tree):
                if isinstance(node, kinds):
                    yield f"{name}:{getattr(node, 'lineno', 0)}", node

    def test_nothing_but_plain_files_lies_in_the_package(self):
        for path in PACKAGE.iterdir():
            if path.name != "__pycache__":
                self.assertRegex(path.name, r"\A([a-z][a-z0-9_]*|__init__|__main__)\.py\Z")
                self.assertNotRegex(path.name, r"\A(test|tests|testing|test_.*|site|conftest)\.py\Z")

    def test_signs_and_sizes(self):
        for name, text in self.texts.items():
            self.assertRegex(text, r"\A[ -~\n]*\Z", name)
            rows = text.split("\n")
            self.assertLessEqual(len(rows) - 1, 400, name)
            self.assertLessEqual(max(len(row) for row in rows), 120, name)
        for where, node in self.nodes(ast.FunctionDef):
            self.assertLessEqual(node.end_lineno - node.lineno + 1, 40, where)

    def test_words_that_stand_nowhere(self):
        for name, text in self.texts.items():
            words = re.findall(r"\w+", text)
            for word in UNSAID:
                self.assertNotIn(word, words, name)
            for word in UNSAID_WITHIN:
                self.assertNotIn(word, text, name)

    def test_only_the_forms_of_the_language(self):
        for where, node in self.nodes(ast.AST):
            self.assertIn(type(node).__name__, NODES, where)

    def test_the_top_of_a_module(self):
        for name, tree in self.trees.items():
            self.assertIsNotNone(ast.get_docstring(tree), name)
            for node in tree.body[1:]:
                self.assertIsInstance(node, (ast.ImportFrom, ast.FunctionDef, ast.ClassDef, ast.Assign), name)
            bound = top_names(tree)
            self.assertEqual(len(bound), len(set(bound)), name)

    def test_a_statement_by_itself_is_a_call(self):
        for name, tree in self.trees.items():
            rows = [node for node in ast.walk(tree) if isinstance(node, ast.Expr)]
            for node in rows:
                self.assertTrue(node is tree.body[0] or isinstance(node.value, ast.Call), f"{name}:{node.lineno}")

    def test_imports(self):
        for where, node in self.nodes(ast.ImportFrom):
            self.assertEqual(node.level, 0, where)
            self.assertRegex(node.module, r"\Aslate\.[a-z_]+\Z", where)
            defined = top_names(self.trees[node.module.removeprefix("slate.") + ".py"])
            for alias in node.names:
                self.assertIsNone(alias.asname, where)
                self.assertIn(alias.name, defined, where)

    def test_functions_are_plain(self):
        for where, node in self.nodes(ast.FunctionDef, ast.ClassDef):
            self.assertEqual(node.decorator_list, [], where)
        for where, node in self.nodes(ast.arguments):
            self.assertEqual((node.vararg, node.kwarg, node.kwonlyargs, node.posonlyargs), (None, None, [], []), where)
        for where, node in self.nodes(ast.arg):
            self.assertIsNone(node.annotation, where)

    def test_classes_are_plain(self):
        for where, node in self.nodes(ast.ClassDef):
            self.assertLessEqual(len(node.bases), 1, where)
            for inner in node.body:
                self.assertIsInstance(inner, (ast.FunctionDef, ast.Pass), where)

    def test_one_target_and_loops_without_else(self):
        for where, node in self.nodes(ast.Assign):
            self.assertEqual(len(node.targets), 1, where)
            self.assertNotIsInstance(node.targets[0], ast.Tuple, where)
        for where, node in self.nodes(ast.For, ast.While):
            self.assertEqual(node.orelse, [], where)
        for where, node in self.nodes(ast.Try):
            self.assertEqual(node.finalbody, [], where)
        for where, node in self.nodes(ast.ListComp):
            self.assertEqual(len(node.generators), 1, where)
            self.assertLessEqual(len(node.generators[0].ifs), 1, where)

    def test_values(self):
        for where, node in self.nodes(ast.Constant):
            self.assertIsInstance(node.value, (int, str, type(None)), where)
        for where, node in self.nodes(ast.FormattedValue):
            self.assertIsInstance(node.value, ast.Name, where)
            self.assertIsNone(node.format_spec, where)
        for where, node in self.nodes(ast.Compare):
            for sign, other in zip(node.ops, node.comparators):
                if isinstance(sign, (ast.Is, ast.IsNot)):
                    self.assertIn(ast.unparse(other), ("None", "True", "False"), where)

    def test_no_percent_sign_and_no_odd_escape_in_a_text(self):
        for where, node in self.nodes(ast.Constant):
            if isinstance(node.value, str):
                self.assertNotIn("%", node.value, where)
        for name, text in self.texts.items():
            self.assertNotRegex(text.replace("\\\\", ""), r"\\[^nt'\"]", name)

    def test_names(self):
        for name, tree in self.trees.items():
            bound = [word for word in told_names(tree) if word not in SPECIAL]
            for word in bound:
                self.assertRegex(word, r"\A[A-Za-z][A-Za-z0-9_]*\Z", name)
                self.assertNotIn(word, dir(builtins), name)
                self.assertNotIn(word, UNUSED, name)
            for node in ast.walk(tree):
                if isinstance(node, ast.Name) and node.id not in bound:
                    self.assertIn(node.id, BUILT_IN, f"{name}:{node.lineno}")

    def test_no_local_is_called_like_a_class_or_an_import(self):
        for name, tree in self.trees.items():
            taken = [node.name for node in tree.body if isinstance(node, ast.ClassDef)]
            for node in tree.body:
                if isinstance(node, ast.ImportFrom):
                    taken.extend([alias.name for alias in node.names])
            for node in ast.walk(tree):
                if isinstance(node, ast.arg):
                    self.assertNotIn(node.arg, taken, f"{name}:{node.lineno}")
                if isinstance(node, ast.Name) and isinstance(node.ctx, ast.Store):
                    self.assertNotIn(node.id, taken, f"{name}:{node.lineno}")

    def test_methods(self):
        own = [inner.name for where, node in self.nodes(ast.ClassDef) for inner in node.body
               if isinstance(inner, ast.FunctionDef)]
        for where, node in self.nodes(ast.Call):
            if isinstance(node.func, ast.Attribute):
                self.assertIn(node.func.attr, METHODS + own, where)

    def test_values_at_the_top_are_plain(self):
        for name, tree in self.trees.items():
            functions = [node.name for node in tree.body if isinstance(node, ast.FunctionDef)]
            for node in tree.body:
                if isinstance(node, ast.Assign):
                    self.assertTrue(is_plain(node.value, functions), f"{name}:{node.lineno}")
                    for inner in list(ast.walk(node.value))[1:]:
                        self.assertNotIsInstance(inner, (ast.List, ast.Dict), f"{name}:{node.lineno}")

    def test_keywords(self):
        for where, node in self.nodes(ast.Call):
            for keyword in node.keywords:
                self.assertIn(keyword.arg, KEYWORDS.get(called(node), ()), where)

    def test_walked_at_once(self):
        for name, tree in self.trees.items():
            allowed = walked_on_the_spot(tree)
            for node in ast.walk(tree):
                if isinstance(node, ast.Call):
                    is_method = isinstance(node.func, ast.Attribute)
                    if called(node) in (WALKED_METHODS if is_method else WALKED):
                        self.assertIn(node, allowed, f"{name}:{node.lineno}")

    def test_what_a_loop_walks_is_not_changed_in_it(self):
        for where, node in self.nodes(ast.For):
            changed = changed_things(node)
            for thing in walked_things(node.iter):
                self.assertNotIn(thing, changed, where)

    def test_exponents_are_written(self):
        for where, node in self.nodes(ast.BinOp):
            if isinstance(node.op, ast.Pow):
                self.assertIsInstance(node.right, ast.Constant, where)
                self.assertIn(node.right.value, range(65), where)

    def test_what_lies_at_the_top_is_only_read(self):
        for name, tree in self.trees.items():
            rows = [node for node in tree.body if isinstance(node, ast.Assign)]
            kept = [row.targets[0].id for row in rows if isinstance(row.value, (ast.List, ast.Dict))]
            kept.extend([alias.name for node in tree.body if isinstance(node, ast.ImportFrom) for alias in node.names
                         if alias.name.isupper()])
            for node in ast.walk(tree):
                if isinstance(node, ast.Subscript) and not isinstance(node.ctx, ast.Load):
                    self.assertNotIn(ast.unparse(node.value), kept, f"{name}:{node.lineno}")
                if isinstance(node, ast.Attribute) and ast.unparse(node.value) in kept:
                    self.assertIn(node.attr, ("get", "index", "count", "items", "keys", "values"), f"{name}:{node.lineno}")

    def test_a_set_is_not_kept(self):
        for name, tree in self.trees.items():
            allowed = []
            for node in ast.walk(tree):
                if isinstance(node, ast.Call) and isinstance(node.func, ast.Name) and node.func.id in ("sorted", "len"):
                    allowed.extend(node.args)
                if isinstance(node, ast.Compare):
                    allowed.extend([node.left] + node.comparators)
            for node in ast.walk(tree):
                if isinstance(node, ast.Call) and isinstance(node.func, ast.Name) and node.func.id == "set":
                    self.assertIn(node, allowed, f"{name}:{node.lineno}")


if __name__ == "__main__":
    unittest.main()
