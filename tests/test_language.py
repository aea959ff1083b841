"""The package held against LANGUAGE.md, as far as a tree of the code can show it.

Where a rule lets more than the package needs, this asks for less: no annotations, no decorators but that of a
property, no imports by another name. Whoever needs more than is let here reads the rule, and widens the check by just that.
"""

import ast
import builtins
import os
import re
import tokenize
import unittest

ROOT = os.path.dirname(os.path.dirname(os.path.abspath(__file__)))
PACKAGE = os.path.join(ROOT, "unpassed")

LIBRARY = {
    "heapq": {"heappush", "heappop", "heapify", "heapreplace", "heappushpop"},
    "math": {"gcd", "lcm", "isqrt", "comb", "perm", "factorial"},
}
BUILTINS = set(
    "len range enumerate zip min max sum abs sorted reversed int str bool list tuple dict set isinstance ord repr any "
    "all divmod type property iter ValueError TypeError KeyError ZeroDivisionError".split())
METHODS = set(
    "append clear copy count endswith extend find get index insert isalnum isalpha isdigit islower isspace isupper "
    "items join keys ljust lower lstrip partition pop remove replace reverse rfind rjust rpartition rsplit rstrip "
    "setdefault split splitlines startswith strip update upper values zfill bit_length isascii isdecimal add discard "
    "removeprefix removesuffix sort __init__".split())
DOUBLE = {"__init__", "__eq__", "__ne__", "__len__", "__iter__", "__contains__", "__getitem__", "__repr__", "__str__"}
NODES = (
    ast.Module, ast.Expr, ast.Assign, ast.AugAssign, ast.Return, ast.If, ast.While, ast.For, ast.Break, ast.Continue,
    ast.Pass, ast.Raise, ast.Try, ast.ExceptHandler, ast.FunctionDef, ast.ClassDef, ast.ImportFrom, ast.alias, ast.Call,
    ast.keyword, ast.Name, ast.Attribute, ast.Constant, ast.BinOp, ast.UnaryOp, ast.BoolOp, ast.Compare, ast.IfExp,
    ast.Tuple, ast.List, ast.Dict, ast.Set, ast.ListComp, ast.DictComp, ast.SetComp, ast.GeneratorExp,
    ast.comprehension, ast.Subscript, ast.Slice, ast.Starred, ast.JoinedStr, ast.FormattedValue, ast.Lambda,
    ast.arguments, ast.arg, ast.Delete, ast.expr_context, ast.operator, ast.unaryop, ast.boolop, ast.cmpop,
)
PLAIN = (
    ast.Constant, ast.Tuple, ast.List, ast.Dict, ast.BinOp, ast.UnaryOp, ast.operator, ast.unaryop, ast.expr_context,
)
NO_NAMES = set(
    "mro elements open input law version_info with_traceback add_note register attrgetter breakpoint builtins compile "
    "copyright credits delattr dir eval exec exit gc getattr globals hasattr help id importlib license locals "
    "methodcaller os quit setattr super vars sys".split())
NO_WORDS = re.compile(
    r"\b(typing|typing_extensions|enum|Enum|IntEnum|StrEnum|Flag|IntFlag|Generic|Protocol|ABC|ABCMeta|namedtuple|"
    r"NamedTuple|TypedDict|TYPE_CHECKING|abstractmethod|_wall|_WallAttr)\b|dataclass|overload|contextmanager")
NO_FILES = re.compile(r"(law_.*|tests?|testing|test_.*|site|conftest|sitecustomize|usercustomize)\.py")
NO_STARTS = ("_wall", "_pe_", "_dcw_", "_enum_", "_cm_", "_twin_re_", "_lay_", "_law_", "_stub_", "_sre", "_WallAttr")
AT_ONCE = {"zip", "enumerate", "reversed", "range"}
TAKERS = {"list", "tuple", "dict", "sorted", "sum", "any", "all", "enumerate", "zip", "min", "max"}


def files():
    """What the folder holds; what Python itself leaves there is never committed."""
    return sorted([name for name in os.listdir(PACKAGE) if name != "__pycache__"])


def source(name):
    with open(os.path.join(PACKAGE, name), encoding="utf-8", newline="") as file:
        return file.read()


TREES = {name: ast.parse(source(name)) for name in files() if name.endswith(".py")}


def nodes(kind):
    """All nodes of a kind, with their files."""
    return [(name, node) for name, tree in TREES.items() for node in ast.walk(tree) if isinstance(node, kind)]


def parents(tree):
    return {child: node for node in ast.walk(tree) for child in ast.iter_child_nodes(node)}


def is_call(node, names):
    return isinstance(node, ast.Call) and isinstance(node.func, ast.Name) and node.func.id in names


def bound(tree):
    """Each name that a file binds anywhere, with its node."""
    for node in ast.walk(tree):
        if isinstance(node, ast.Name) and not isinstance(node.ctx, ast.Load):
            yield node.id, node
        elif isinstance(node, ast.arg):
            yield node.arg, node
        elif isinstance(node, (ast.FunctionDef, ast.ClassDef)):
            yield node.name, node
        elif isinstance(node, ast.alias):
            yield node.name, node
        elif isinstance(node, ast.ExceptHandler) and node.name:
            yield node.name, node


def defined(tree):
    """The names that a file defines at module level by itself."""
    names = []
    for node in tree.body:
        if isinstance(node, (ast.FunctionDef, ast.ClassDef)):
            names.append(node.name)
        elif isinstance(node, ast.Assign):
            names.append(node.targets[0].id)
    return names


def imported(tree):
    return [alias.name for node in tree.body if isinstance(node, ast.ImportFrom) for alias in node.names]


class FilesTest(unittest.TestCase):
    def test_files_and_characters(self):
        self.assertIn("__init__.py", files())
        self.assertLessEqual(len(files()), 100)
        for name in files():
            self.assertRegex(name, r"^(__init__|__main__|[a-z][a-z0-9_]*)\.py$")
            self.assertFalse(NO_FILES.fullmatch(name), name)
            self.assertFalse(hasattr(builtins, name[:-3]) and name != "__init__.py", name)
            text = source(name)
            self.assertFalse([sign for sign in text if not " " <= sign <= "~" and sign != "\n"], name)
            self.assertFalse(NO_WORDS.search(text), name)
            self.assertLessEqual(len(text.splitlines()), 399, name)
            self.assertLessEqual(max([len(line) for line in text.splitlines()]), 120, name)

    def test_functions_are_short(self):
        for name, node in nodes(ast.FunctionDef):
            self.assertLessEqual(node.end_lineno - node.lineno + 1, 40, (name, node.name))

    def test_strings(self):
        for name in TREES:
            with open(os.path.join(PACKAGE, name), "rb") as file:
                for token in tokenize.tokenize(file.readline):
                    if token.type == tokenize.STRING:
                        self.assertFalse(re.search(r"\\[^n\\t'\"]", token.string), (name, token.string))
        for name, node in nodes(ast.Constant):
            self.assertIn(type(node.value), (int, str, bool, type(None)), (name, node.lineno))
            if isinstance(node.value, str):
                self.assertNotIn("%", node.value, name)
                self.assertNotIn("__", node.value, name)
                self.assertFalse(node.value.endswith("._"), name)


class StatementsTest(unittest.TestCase):
    def test_only_plain_nodes(self):
        for name, node in nodes(ast.AST):
            self.assertIsInstance(node, NODES, (name, getattr(node, "lineno", 0)))
            self.assertNotIsInstance(node, (ast.Div, ast.MatMult), name)

    def test_module_level(self):
        for name, tree in TREES.items():
            for place, node in enumerate(tree.body):
                if isinstance(node, ast.Assign):
                    self.assertIsInstance(node.targets[0], ast.Name, name)
                    self.assertEqual(len(node.targets), 1)
                    above = [one.name for one in tree.body[:place] if isinstance(one, ast.FunctionDef)]
                    for part in ast.walk(node.value):
                        told = isinstance(part, ast.Name) and part.id in above
                        self.assertTrue(told or isinstance(part, PLAIN), (name, node.lineno))
                    for part in ast.walk(node.value):
                        if isinstance(part, (ast.List, ast.Dict)) and part is not node.value:
                            self.fail(f"{name}: line {node.lineno}: a list or a dict in another one")
                elif isinstance(node, ast.Expr):
                    self.assertEqual(place, 0, name)
                    self.assertIsInstance(node.value, ast.Constant, name)
                else:
                    self.assertIsInstance(node, (ast.ImportFrom, ast.FunctionDef, ast.ClassDef), name)

    def test_functions_and_classes(self):
        methods = [part for _, node in nodes(ast.ClassDef) for part in node.body if isinstance(part, ast.FunctionDef)]
        for name, node in nodes((ast.FunctionDef, ast.ClassDef)):
            for word in node.decorator_list:
                self.assertTrue(isinstance(word, ast.Name) and word.id == "property", (name, node.name))
                self.assertTrue(node in methods and len(node.args.args) == 1, (name, node.name))
        for name, node in nodes(ast.FunctionDef):
            self.assertIsNone(node.returns, (name, node.name))
            self.assertTrue(ast.get_docstring(node) or node.name.startswith("__"), (name, node.name))
            for value in node.args.defaults:
                self.assertIsInstance(value, (ast.Constant, ast.Tuple, ast.UnaryOp), (name, node.name))
        for name, node in nodes(ast.arg):
            self.assertIsNone(node.annotation, (name, node.arg))
        for name, node in nodes(ast.ClassDef):
            for part in node.body:
                docstring = isinstance(part, ast.Expr) and isinstance(part.value, ast.Constant)
                self.assertTrue(docstring or isinstance(part, ast.FunctionDef), (name, node.name))
                if isinstance(part, ast.FunctionDef) and part.name.startswith("__"):
                    self.assertIn(part.name, DOUBLE)

    def test_errors(self):
        for name, node in nodes(ast.Raise):
            self.assertTrue(node.exc is None or isinstance(node.exc, ast.Call), (name, node.lineno))
        for name, node in nodes(ast.ExceptHandler):
            self.assertIsInstance(node.type, (ast.Name, ast.Tuple), (name, node.lineno))
            for part in ast.walk(node.type):
                self.assertNotIn(getattr(part, "id", ""), (
                    "Exception", "BaseException", "ValueError", "LookupError", "IndexError", "TypeError"))


    def test_stars_in_calls(self):
        for name, node in nodes(ast.Call):
            for argument in node.args:
                if isinstance(argument, ast.Starred):
                    self.assertIsInstance(argument.value, ast.Name, (name, node.lineno))
            self.assertNotIn(None, [keyword.arg for keyword in node.keywords], (name, node.lineno))

    def test_methods_of_signs(self):
        """Those that stand behind a sign are short, and each changes nothing."""
        for name, node in nodes(ast.FunctionDef):
            if node.name in DOUBLE - {"__init__"} or node.decorator_list:
                rows = [part for part in node.body if not isinstance(part, ast.Expr)]
                self.assertEqual([type(part) for part in rows], [ast.Return], (name, node.name))
            if node.name == "__iter__":
                told = node.body[0].value
                self.assertTrue(is_call(told, {"iter"}) and isinstance(told.args[0], ast.Attribute), name)
            if node.name == "__eq__":
                told = node.body[0].value
                self.assertTrue(isinstance(told, ast.BoolOp) and isinstance(told.op, ast.And), name)
                self.assertTrue(is_call(told.values[0], {"isinstance"}), name)
            if node.name == "__len__":
                self.assertTrue(is_call(node.body[0].value, {"len"}), name)

    def test_types(self):
        """What kind a value is of is asked of isinstance alone; the name of a class may be told."""
        for name, tree in TREES.items():
            above = parents(tree)
            for node in [node for node in ast.walk(tree) if is_call(node, {"type"})]:
                place = above[node]
                self.assertTrue(isinstance(place, ast.Attribute) and place.attr == "__name__", (name, node.lineno))


class NamesTest(unittest.TestCase):
    def test_imports(self):
        for name, tree in TREES.items():
            behind = [not isinstance(node, ast.ImportFrom) for node in tree.body[1:]]
            self.assertEqual(behind, sorted(behind), f"{name}: an import is not at the top")
            for node in [node for node in ast.walk(tree) if isinstance(node, ast.ImportFrom)]:
                self.assertEqual(node.level, 0)
                self.assertIn(node, tree.body)
                names = LIBRARY.get(node.module)
                if names is None:
                    package, _, module = node.module.partition(".")
                    self.assertEqual(package, "unpassed")
                    names = defined(TREES[module + ".py"])
                for alias in node.names:
                    self.assertIsNone(alias.asname)
                    self.assertIn(alias.name, names, name)

    def test_no_import_is_idle(self):
        for name, tree in TREES.items():
            used = {node.id for node in ast.walk(tree) if isinstance(node, ast.Name)}
            self.assertEqual(set(imported(tree)) - used, set(), name)

    def test_no_files_import_each_other(self):
        wanted = {name: {node.module.partition(".")[2] + ".py" for node in tree.body
                         if isinstance(node, ast.ImportFrom) and node.module.startswith("unpassed.")}
                  for name, tree in TREES.items()}
        while wanted:
            free = [name for name, others in wanted.items() if not others & set(wanted)]
            self.assertTrue(free, f"imports go round: {sorted(wanted)}")
            wanted = {name: others for name, others in wanted.items() if name not in free}

    def test_bound_names(self):
        for name, tree in TREES.items():
            fixed = imported(tree) + [node.name for node in tree.body if isinstance(node, ast.ClassDef)]
            at_top = defined(tree) + imported(tree)
            self.assertEqual(len(at_top), len(set(at_top)), name)
            for word, node in bound(tree):
                self.assertRegex(word, r"^(_?[A-Za-z][A-Za-z0-9_]*|_|__[a-z]+__)$")
                self.assertNotIn(word, NO_NAMES, name)
                self.assertFalse(hasattr(builtins, word) and word not in DOUBLE, (name, word))
                self.assertFalse(word.startswith(NO_STARTS), (name, word))
                if not isinstance(node, (ast.alias, ast.ClassDef)):
                    self.assertNotIn(word, fixed, (name, node.lineno))
                if word.startswith("__"):
                    self.assertIn(word, DOUBLE)

    def test_read_names(self):
        for name, tree in TREES.items():
            own = {word for word, _ in bound(tree)}
            for node in [node for node in ast.walk(tree) if isinstance(node, ast.Name)]:
                self.assertTrue(node.id in own or node.id in BUILTINS, (name, node.id, node.lineno))
                self.assertFalse(node.id == "_" and isinstance(node.ctx, ast.Load), (name, node.lineno))

    def test_methods_and_attributes(self):
        own = {node.name for _, one in nodes(ast.ClassDef) for node in one.body if isinstance(node, ast.FunctionDef)}
        kept = {node.attr for _, node in nodes(ast.Attribute) if isinstance(node.ctx, ast.Store)}
        for name, node in nodes(ast.Attribute):
            if node.attr == "__name__" and is_call(node.value, {"type"}):
                continue
            self.assertIn(node.attr, METHODS | own | kept, (name, node.lineno))
            self.assertNotIn(node.attr, NO_NAMES, name)


class ExpressionsTest(unittest.TestCase):
    def test_is(self):
        for name, node in nodes(ast.Compare):
            for sign, side in zip(node.ops, node.comparators):
                if isinstance(sign, (ast.Is, ast.IsNot)):
                    self.assertIsInstance(side, ast.Constant, (name, node.lineno))
                    self.assertIn(side.value, (None, True, False))

    def test_exponents(self):
        for name, node in nodes(ast.BinOp):
            if isinstance(node.op, ast.Pow):
                self.assertIsInstance(node.right, ast.Constant, (name, node.lineno))
                self.assertIn(node.right.value, range(65))

    def test_sets_stand_where_they_may(self):
        for name, tree in TREES.items():
            above = parents(tree)
            for node in ast.walk(tree):
                if is_call(node, {"set"}) or isinstance(node, (ast.Set, ast.SetComp)):
                    place = above[node]
                    told = is_call(place, {"sorted", "len"}) and not place.keywords
                    kept = isinstance(place, ast.Assign) and isinstance(place.targets[0], ast.Name)
                    self.assertTrue(told or kept or isinstance(place, ast.Compare), (name, node.lineno))
                self.assertFalse(is_call(node, {"frozenset", "pow", "chr", "print"}), name)

    def test_what_is_iterated_at_once(self):
        for name, tree in TREES.items():
            above = parents(tree)
            for node in ast.walk(tree):
                if is_call(node, AT_ONCE):
                    place = above[node]
                    head = isinstance(place, (ast.For, ast.comprehension)) and place.iter is node
                    inside = isinstance(place, ast.Compare) and is_call(node, {"range"})
                    self.assertTrue(head or inside or is_call(place, TAKERS), (name, node.lineno))

    def test_generator_expressions(self):
        for name, node in nodes(ast.GeneratorExp):
            self.fail(f"{name}: line {node.lineno}: take a list, as classes with == ask for")

    def test_lambdas_stand_on_lines_of_their_own(self):
        lines = [(name, node.lineno) for name, node in nodes(ast.Lambda)]
        self.assertEqual(len(lines), len(set(lines)))
        for name, node in nodes(ast.Lambda):
            self.assertEqual(node.args.defaults, [], (name, node.lineno))

    def test_keywords_of_builtins(self):
        let = {"sorted": {"key", "reverse"}, "min": {"key", "default"}, "max": {"key", "default"}, "sum": {"start"},
               "enumerate": {"start"}, "zip": {"strict"}}
        for name, node in nodes(ast.Call):
            if is_call(node, BUILTINS):
                words = {keyword.arg for keyword in node.keywords}
                self.assertLessEqual(words, let.get(node.func.id, set()), (name, node.lineno))


if __name__ == "__main__":
    unittest.main()
