"""The rules of LANGUAGE.md that can be seen in a file's form. (Not all of them can.)"""

import ast
import builtins
import re
import unittest
from pathlib import Path

PACKAGE = Path(__file__).resolve().parent.parent / "thinnet"

STATEMENTS = """Module Import ImportFrom alias FunctionDef arguments arg ClassDef Assign AugAssign If While For Return
    Break Continue Pass Raise Try ExceptHandler Expr""".split()
VALUES = """Constant Name Attribute Subscript Slice Tuple List Dict Set Call keyword Compare BoolOp UnaryOp BinOp IfExp
    ListComp comprehension JoinedStr FormattedValue Lambda Load Store""".split()
SIGNS = """And Or Not USub UAdd Invert Add Sub Mult FloorDiv Mod Pow BitOr BitAnd BitXor LShift RShift Eq NotEq Lt LtE
    Gt GtE Is IsNot In NotIn""".split()
NODES = STATEMENTS + VALUES + SIGNS
OWN_NAMES = """len range enumerate zip min max sum abs sorted reversed int str bool list tuple dict set frozenset
    isinstance ord repr any all divmod Exception ValueError TypeError KeyError IndexError LookupError ZeroDivisionError
    ArithmeticError OverflowError RuntimeError NotImplementedError AttributeError StopIteration""".split()
METHODS = """append clear copy count endswith extend find get index insert isalnum isalpha isdigit islower isspace
    isupper items join keys ljust lower lstrip partition pop remove replace reverse rfind rjust rpartition rsplit rstrip
    setdefault split splitlines startswith strip update upper values zfill bit_length __init__""".split()
WORDS = """type typing typing_extensions enum Enum IntEnum StrEnum Flag IntFlag Generic Protocol ABC ABCMeta namedtuple
    NamedTuple TypedDict TYPE_CHECKING abstractmethod""".split()
NEVER = """register mro elements open input version_info with_traceback add_note attrgetter breakpoint builtins compile
    copyright credits delattr dir eval exec exit gc getattr globals hasattr help id importlib license locals
    methodcaller os quit setattr super type vars sys __name__""".split()
DOUBLE = "__init__ __eq__ __repr__ __str__ __len__".split()
BUILT_IN = set(dir(builtins))
WALKED = "zip enumerate reversed range".split()
WALKERS = "list tuple dict sorted sum any all enumerate zip min max join".split()
KEYWORDS = [("sorted", "key"), ("sorted", "reverse"), ("min", "key"), ("max", "key"), ("min", "default"),
            ("max", "default"), ("sum", "start"), ("enumerate", "start"), ("zip", "strict")]
SEEKING = """far way_of round_of least_ways prices_from thinned greedy_paper ways_paper least_tree tree_paper tree_from
    light_tree keeps_pairs thinned_for_pairs pairs_paper near_way broken_of steady_thinned bush_of breaking_paper
    fewest_of least_thin""".split()


def files():
    return sorted(PACKAGE.glob("*.py"))


def bound_names(node):
    if isinstance(node, ast.Name) and isinstance(node.ctx, ast.Store):
        return [node.id]
    if isinstance(node, (ast.FunctionDef, ast.ClassDef)):
        return [node.name]
    if isinstance(node, ast.arg):
        return [node.arg]
    if isinstance(node, ast.ExceptHandler) and node.name:
        return [node.name]
    return []


def top_names(body):
    """The names that a file binds itself at its top."""
    parts = [part for node in body for part in [node, *getattr(node, "targets", [])]]
    return [name for part in parts for name in bound_names(part)]


def called(call):
    """The name that a call calls, as a function or as a method."""
    return getattr(call.func, "id", getattr(call.func, "attr", None))


class Language(unittest.TestCase):
    def walk(self):
        for path in files():
            for node in ast.walk(ast.parse(path.read_text())):
                yield f"{path.name}:{getattr(node, 'lineno', 0)}", node

    def test_files(self):
        self.assertIn(PACKAGE / "__init__.py", files())
        for path in PACKAGE.iterdir():
            if path.name != "__pycache__":
                self.assertRegex(path.name, r"^(__init__|__main__|[a-z][a-z0-9_]*)\.py$")

    def test_signs_and_sizes(self):
        for path in files():
            text = path.read_text()
            self.assertRegex(text, r"^[\n -~]*$", path.name)
            lines = text.splitlines()
            self.assertLessEqual(len(lines), 400, path.name)
            self.assertLessEqual(max([len(line) for line in lines], default=0), 120, path.name)

    def test_words(self):
        for path in files():
            text = path.read_text()
            for word in WORDS:
                self.assertIsNone(re.search(rf"\b{word}\b", text), (path.name, word))
            for word in ("dataclass", "overload", "contextmanager"):
                self.assertNotIn(word, text, path.name)

    def test_top_of_a_module(self):
        for path in files():
            body = ast.parse(path.read_text()).body
            self.assertTrue(isinstance(body[0], ast.Expr) and isinstance(body[0].value.value, str), path.name)
            for node in body[1:]:
                self.assertIsInstance(node, (ast.ImportFrom, ast.Assign, ast.FunctionDef, ast.ClassDef), path.name)
            names = top_names(body)
            self.assertEqual(len(names), len(set(names)), path.name)

    def test_imports(self):
        for where, node in self.walk():
            self.assertNotIsInstance(node, ast.Import, where)
            if isinstance(node, ast.ImportFrom):
                self.assertEqual(node.level, 0, where)
                self.assertRegex(node.module, r"^thinnet\.[a-z_]+$", where)
                defined = ast.parse((PACKAGE / f"{node.module.split('.')[1]}.py").read_text()).body
                for alias in node.names:
                    self.assertIn(alias.name, top_names(defined), where)
                    self.assertIsNone(alias.asname, where)

    def test_statements_and_values(self):
        for where, node in self.walk():
            kind = node.__class__.__name__
            self.assertIn(kind, NODES, where)
            if isinstance(node, (ast.While, ast.For)):
                self.assertEqual(node.orelse, [], where)
            if isinstance(node, ast.Assign):
                self.assertEqual(len(node.targets), 1, where)
            if isinstance(node, ast.Expr) and node.lineno > 1:
                self.assertIsInstance(node.value, ast.Call, where)
            if isinstance(node, ast.comprehension):
                self.assertLessEqual(len(node.ifs), 1, where)
            if isinstance(node, ast.ListComp):
                self.assertEqual(len(node.generators), 1, where)
            if isinstance(node, ast.Constant):
                self.assertIsInstance(node.value, (int, str, type(None)), where)
                self.assertFalse(isinstance(node.value, str) and "%" in node.value, where)

    def test_functions_and_classes(self):
        for where, node in self.walk():
            if isinstance(node, (ast.FunctionDef, ast.ClassDef)):
                self.assertEqual(node.decorator_list, [], where)
            if isinstance(node, ast.FunctionDef):
                self.assertLessEqual(node.end_lineno - node.lineno + 1, 40, where)
            if isinstance(node, ast.arguments):
                self.assertEqual([node.vararg, node.kwarg], [None, None], where)
                self.assertEqual(node.kwonlyargs + node.posonlyargs, [], where)
            if isinstance(node, ast.ClassDef):
                self.assertLessEqual(len(node.bases), 1, where)
                for part in node.body:
                    self.assertIsInstance(part, (ast.FunctionDef, ast.Pass), where)

    def test_names(self):
        for where, node in self.walk():
            if isinstance(node, ast.Name) and isinstance(node.ctx, ast.Load) and node.id in BUILT_IN:
                self.assertIn(node.id, OWN_NAMES, where)
            for name in bound_names(node):
                self.assertNotIn(name, BUILT_IN, where)
                self.assertNotIn(name, NEVER, where)
                self.assertTrue(name in DOUBLE or re.match(r"[A-Za-z][A-Za-z0-9_]*$", name), (where, name))

    def test_methods(self):
        own = {node.name for where, node in self.walk() if isinstance(node, ast.FunctionDef)}
        for where, node in self.walk():
            if isinstance(node, ast.Call) and isinstance(node.func, ast.Attribute):
                self.assertTrue(node.func.attr in METHODS or node.func.attr in own, (where, node.func.attr))

    def test_no_name_is_a_method_and_a_value(self):
        methods = [part.name for where, node in self.walk() if isinstance(node, ast.ClassDef) for part in node.body
                   if isinstance(part, ast.FunctionDef)]
        values = {node.attr for where, node in self.walk()
                  if isinstance(node, ast.Attribute) and isinstance(node.ctx, ast.Store)}
        self.assertFalse(values & set(methods))
        self.assertFalse(values & set(METHODS))
        own = {name for kind in (str, int, list, dict, set, bytes, tuple) for name in dir(kind)}
        self.assertFalse((values | set(methods) - set(DOUBLE)) & own)

    def test_lists_and_dicts_of_a_files_top_are_only_read(self):
        for path in files():
            tree = ast.parse(path.read_text())
            kept = [name for node in tree.body if isinstance(node, ast.Assign) for part in node.targets
                    for name in bound_names(part) if isinstance(node.value, (ast.List, ast.Dict))]
            for node in ast.walk(tree):
                for child in ast.iter_child_nodes(node):
                    if isinstance(child, ast.Name) and child.id in kept and isinstance(child.ctx, ast.Load):
                        self.assertIsInstance(node, (ast.Subscript, ast.Compare), (path.name, child.lineno))

    def test_is_stands_beside_none_and_truths(self):
        for where, node in self.walk():
            if isinstance(node, ast.Compare):
                for sign, value in zip(node.ops, node.comparators):
                    if isinstance(sign, (ast.Is, ast.IsNot)):
                        self.assertTrue(isinstance(value, ast.Constant) and value.value in (None, True, False), where)

    def test_no_local_is_called_like_an_import_or_a_class(self):
        for path in files():
            body = ast.parse(path.read_text()).body
            taken = [alias.name for node in body if isinstance(node, ast.ImportFrom) for alias in node.names]
            taken += [node.name for node in body if isinstance(node, ast.ClassDef)]
            # A method may be called like an import.
            methods = [part for node in body if isinstance(node, ast.ClassDef) for part in node.body]
            for top in body:
                for node in ast.walk(top):
                    if node is not top and node not in methods:
                        self.assertFalse(set(bound_names(node)) & set(taken), (path.name, node.__class__))

    def test_no_two_files_draw_from_one_another(self):
        drawn = {}
        for path in files():
            rows = [node for node in ast.parse(path.read_text()).body if isinstance(node, ast.ImportFrom)]
            drawn[path.stem] = {node.module.split(".")[1] for node in rows}
        while drawn:
            ends = [name for name in drawn if not drawn[name] & set(drawn)]
            self.assertNotEqual(ends, [], sorted(drawn))
            for name in ends:
                drawn.pop(name)

    def test_checkers_seek_no_way_and_thin_no_net(self):
        for name in ("checking", "pairchecking", "breakchecking", "cases"):
            body = ast.parse((PACKAGE / f"{name}.py").read_text()).body
            names = {alias.name for node in body if isinstance(node, ast.ImportFrom) for alias in node.names}
            self.assertFalse(names & set(SEEKING), name)

    def test_powers_have_written_exponents(self):
        for where, node in self.walk():
            if isinstance(node, ast.BinOp) and isinstance(node.op, ast.Pow):
                self.assertTrue(isinstance(node.right, ast.Constant) and 0 <= node.right.value <= 64, where)

    def test_keywords(self):
        for where, node in self.walk():
            if isinstance(node, ast.Call):
                for keyword in node.keywords:
                    self.assertIn((getattr(node.func, "id", None), keyword.arg), KEYWORDS, where)

    def test_walked_on_the_spot(self):
        for path in files():
            for node in ast.walk(ast.parse(path.read_text())):
                for child in ast.iter_child_nodes(node):
                    if isinstance(child, ast.Call) and called(child) in WALKED + ["items", "keys", "values"]:
                        walking = isinstance(node, (ast.For, ast.comprehension)) and node.iter is child
                        within = isinstance(node, ast.Call) and called(node) in WALKERS and node.args[0] is child
                        self.assertTrue(walking or within, (path.name, child.lineno))
                    if isinstance(child, ast.Call) and called(child) in ("set", "frozenset"):
                        within = isinstance(node, ast.Call) and called(node) in ("sorted", "len")
                        self.assertTrue(within or isinstance(node, (ast.Compare, ast.BinOp)), (path.name, child.lineno))

    def test_errors_are_made_on_the_spot(self):
        for where, node in self.walk():
            if isinstance(node, ast.Raise):
                self.assertIsInstance(node.exc, ast.Call, where)
            if isinstance(node, ast.ExceptHandler):
                self.assertIsNotNone(node.type, where)
                self.assertNotIn(getattr(node.type, "id", None), ("Exception", "TypeError"), where)

    def test_walked_at_once_and_no_sets_kept(self):
        for where, node in self.walk():
            if isinstance(node, ast.Assign) and isinstance(node.value, ast.Call):
                name = getattr(node.value.func, "id", getattr(node.value.func, "attr", None))
                self.assertNotIn(name, WALKED + ["items", "keys", "values", "set", "frozenset"], where)


if __name__ == "__main__":
    unittest.main()
