"""Tests that the files of the package keep to the rules of LANGUAGE.md that a walk over their trees can see."""

import ast
import builtins
import pathlib
import re
import unittest

ROOT = pathlib.Path(__file__).resolve().parent.parent
FOLDER = ROOT / "earliestlots"
FILES = sorted(FOLDER.glob("*.py"))

STATEMENTS = (
    ast.Assign, ast.AugAssign, ast.AnnAssign, ast.If, ast.While, ast.For, ast.Return, ast.Break, ast.Continue, ast.Pass,
    ast.Raise, ast.Assert, ast.Delete, ast.Nonlocal, ast.Match, ast.With, ast.Try, ast.Expr, ast.FunctionDef,
    ast.ClassDef, ast.ImportFrom)
CALLED_BUILTINS = set(
    "len range enumerate zip min max sum abs sorted reversed int str bool list tuple dict set isinstance ord repr any"
    " all divmod iter super".split())
METHODS = set(
    "append clear copy count endswith extend find get index insert isalnum isalpha isdigit islower isspace isupper"
    " items join keys ljust lower lstrip partition pop remove replace reverse rfind rjust rpartition rsplit rstrip"
    " setdefault split splitlines startswith strip update upper values zfill bit_length add discard __init__".split())
DOUBLED = {"__init__", "__eq__", "__repr__", "__str__", "__len__", "__enter__", "__exit__", "__call__", "__iter__"}
BARRED_ATTRIBUTES = set(
    "items keys values pop update append clear extend insert remove reverse setdefault sort args encode decode hex"
    " fromhex format format_map mro".split())
BARRED_NAMES = set(
    "register mro elements open input law version_info with_traceback add_note compile dir eval exec exit gc globals"
    " help id locals os quit type vars sys next".split())
BARRED_WORDS = re.compile(
    r"\b(type|typing|typing_extensions|enum|Enum|IntEnum|StrEnum|Flag|IntFlag|Generic|Protocol|ABC|ABCMeta|namedtuple"
    r"|NamedTuple|TypedDict|TYPE_CHECKING|abstractmethod)\b|dataclass|overload|contextmanager|_wall|_WallAttr")
AT_ONCE = {"zip", "enumerate", "reversed", "range"}
VIEWS = {"items", "keys", "values"}
GOING_OVER = {"list", "tuple", "dict", "sorted", "sum", "any", "all", "enumerate", "zip", "min", "max"}


def parents_of(tree):
    """For each node of the tree the node that it stands in."""
    return {child: node for node in ast.walk(tree) for child in ast.iter_child_nodes(node)}


def called_name(node):
    """The bare name that is called, or None."""
    if isinstance(node, ast.Call) and isinstance(node.func, ast.Name):
        return node.func.id
    return None


def is_gone_over(node, parents):
    """Whether this is iterated on the spot."""
    above = parents[node]
    if isinstance(above, (ast.For, ast.comprehension)):
        return above.iter is node
    if isinstance(above, ast.YieldFrom):
        return True
    if isinstance(above, ast.Call) and isinstance(above.func, ast.Attribute) and above.func.attr == "join":
        return True
    return called_name(above) in GOING_OVER and above.args[0] is node or called_name(above) == "zip"


def is_set(node):
    """Whether this makes a set."""
    if isinstance(node, ast.BinOp) and isinstance(node.op, (ast.Sub, ast.BitAnd, ast.BitOr, ast.BitXor)):
        return is_set(node.left) and is_set(node.right)
    return isinstance(node, (ast.Set, ast.SetComp)) or called_name(node) == "set"


def bound_names(function):
    """The parameters and local names of the function."""
    names = {part.arg for part in ast.walk(function.args) if isinstance(part, ast.arg)}
    for node in ast.walk(function):
        if isinstance(node, ast.Name) and isinstance(node.ctx, (ast.Store, ast.Del)):
            names.add(node.id)
        if isinstance(node, ast.FunctionDef) and node is not function:
            names.add(node.name)
    return names


class LanguageTests(unittest.TestCase):

    def setUp(self):
        self.texts = {path.stem: path.read_text() for path in FILES}
        self.trees = {name: ast.parse(text) for name, text in self.texts.items()}
        self.defined = {
            name: {node.name for node in tree.body if isinstance(node, (ast.FunctionDef, ast.ClassDef))}
            | {node.targets[0].id for node in tree.body if isinstance(node, ast.Assign)}
            for name, tree in self.trees.items()}
        self.functions = [
            (name, node) for name, tree in self.trees.items() for node in ast.walk(tree)
            if isinstance(node, ast.FunctionDef)]
        self.generators = {
            node.name for _, node in self.functions
            if any(isinstance(part, (ast.Yield, ast.YieldFrom)) for part in ast.walk(node))}
        self.classes = {node.name for tree in self.trees.values() for node in tree.body
                        if isinstance(node, ast.ClassDef)}

    def nodes(self):
        """Each node of each file, with a word for messages and what it stands in."""
        for name, tree in self.trees.items():
            parents = parents_of(tree)
            for node in ast.walk(tree):
                yield node, f"{name}.py, line {getattr(node, 'lineno', 0)}", parents

    def test_files_and_sizes(self):
        self.assertIn("__init__", self.trees)
        others = [path.name for path in FOLDER.iterdir() if path.suffix != ".py" and path.name != "__pycache__"]
        self.assertEqual(others, [])
        for name, text in self.texts.items():
            self.assertRegex(name, r"^(__init__|[a-z][a-z0-9_]*)$")
            rows = text.split("\n")
            self.assertLessEqual(len(rows) - 1, 399, name)
            self.assertLessEqual(max(map(len, rows)), 120, name)
            self.assertTrue(all(sign == "\n" or " " <= sign <= "~" for sign in text), name)
        for name, node in self.functions:
            self.assertLessEqual(node.end_lineno - node.lineno + 1, 40, (name, node.name))

    def test_module_level(self):
        for name, tree in self.trees.items():
            self.assertIsInstance(ast.get_docstring(tree), str, name)
            names = []
            for node in tree.body[1:]:
                self.assertIsInstance(node, (ast.ImportFrom, ast.FunctionDef, ast.ClassDef, ast.Assign), name)
                if isinstance(node, ast.Assign):
                    self.assertEqual(len(node.targets), 1)
                    names.append(node.targets[0].id)
                elif isinstance(node, ast.ImportFrom):
                    names.extend(part.name for part in node.names)
                else:
                    names.append(node.name)
            self.assertEqual(len(names), len(set(names)), name)

    def test_imports(self):
        leads = {name: set() for name in self.trees}
        for node, where, parents in self.nodes():
            self.assertNotIsInstance(node, ast.Import, where)
            if isinstance(node, ast.ImportFrom):
                self.assertIsInstance(parents[node], ast.Module, where)
                self.assertEqual(node.level, 0, where)
                self.assertTrue(node.module.startswith("earliestlots."), where)
                source = node.module.removeprefix("earliestlots.")
                for part in node.names:
                    self.assertIsNone(part.asname, where)
                    self.assertIn(part.name, self.defined[source], where)
                    self.assertFalse(part.name.startswith("_"), where)
                leads[where.split(".py")[0]].add(source)
        while leads:
            free = [name for name in leads if not leads[name] & set(leads)]
            self.assertTrue(free, leads)
            for name in free:
                del leads[name]

    def test_imported_names_are_used(self):
        for name, tree in self.trees.items():
            imported = {part.name for node in tree.body if isinstance(node, ast.ImportFrom) for part in node.names}
            used = {node.id for node in ast.walk(tree) if isinstance(node, ast.Name)}
            self.assertEqual(imported - used, set(), name)

    def test_statements_and_expressions(self):
        barred = (ast.GeneratorExp, ast.Global, ast.Await, ast.AsyncFunctionDef, ast.Div, ast.Pow, ast.MatMult,
                  ast.Import, ast.NamedExpr)
        for node, where, parents in self.nodes():
            self.assertNotIsInstance(node, barred, where)
            if isinstance(node, ast.stmt):
                self.assertIsInstance(node, STATEMENTS, where)
            if isinstance(node, ast.Constant):
                self.assertNotIsInstance(node.value, (float, complex, bytes), where)
                if isinstance(node.value, str):
                    self.assertNotIn("%", node.value, where)
            if isinstance(node, ast.Compare) and isinstance(node.ops[0], (ast.Is, ast.IsNot)):
                self.assertIsInstance(node.comparators[0], ast.Constant, where)
            if isinstance(node, (ast.FunctionDef, ast.ClassDef)):
                for mark in node.decorator_list:
                    self.assertRegex(ast.unparse(mark), r"^(property|staticmethod|classmethod|[a-z_]+\.setter)$", where)
            if isinstance(node, ast.ExceptHandler):
                self.assertIn(getattr(node.type, "id", None), self.classes | {"KeyError", "ZeroDivisionError"}, where)
            if isinstance(node, ast.Raise) and node.exc is not None:
                self.assertIn(called_name(node.exc), self.classes, where)

    def test_names(self):
        words = set(dir(builtins))
        for name, node in self.functions:
            held = {part.name for row in self.trees[name].body if isinstance(row, ast.ImportFrom) for part in row.names}
            held |= {row.name for row in self.trees[name].body if isinstance(row, ast.ClassDef)}
            bound = bound_names(node)
            self.assertEqual(bound & (held | words | BARRED_NAMES), set(), (name, node.name))
            self.assertEqual(bound & self.generators, set(), (name, node.name))
        for node, where, parents in self.nodes():
            if isinstance(node, ast.Name):
                self.assertTrue(re.fullmatch(r"_?[A-Za-z][A-Za-z0-9_]*|_", node.id), where)
                if node.id == "_":
                    self.assertIsInstance(node.ctx, ast.Store, where)
                if node.id in words and node.id not in self.classes:
                    call = isinstance(parents[node], ast.Call)
                    error = isinstance(parents[node], (ast.ClassDef, ast.Tuple)) or node.id == "KeyError"
                    constant = node.id in ("True", "False", "None")
                    mark = node in getattr(parents[node], "decorator_list", ())
                    self.assertTrue(call or error or constant or mark, where)
                    if call and parents[node].func is node:
                        self.assertIn(node.id, CALLED_BUILTINS, where)
            if isinstance(node, ast.FunctionDef) and node.name.startswith("__"):
                self.assertIn(node.name, DOUBLED, where)
                self.assertIsInstance(parents[node], ast.ClassDef, where)

    def test_words(self):
        for name, tree in self.trees.items():
            for node in ast.walk(tree):
                if isinstance(node, (ast.Module, ast.ClassDef, ast.FunctionDef)) and ast.get_docstring(node):
                    node.body[0].value.value = ""
            self.assertIsNone(BARRED_WORDS.search(ast.unparse(tree)), name)

    def test_methods_and_attributes(self):
        own = {node.name for _, node in self.functions}
        for node, where, parents in self.nodes():
            if isinstance(node, ast.Call) and isinstance(node.func, ast.Attribute):
                self.assertIn(node.func.attr, METHODS | own, where)
            if isinstance(node, ast.Attribute) and isinstance(node.ctx, ast.Store):
                self.assertNotIn(node.attr, BARRED_ATTRIBUTES, where)
                self.assertIsInstance(node.value, ast.Name, where)

    def test_what_is_iterated_at_once(self):
        for node, where, parents in self.nodes():
            view = (isinstance(node, ast.Call) and isinstance(node.func, ast.Attribute) and node.func.attr in VIEWS)
            if view or called_name(node) in AT_ONCE or called_name(node) in self.generators:
                self.assertTrue(is_gone_over(node, parents), where)
            if isinstance(node, ast.Name) and node.id in self.generators:
                self.assertIsInstance(parents[node], ast.Call, where)
                self.assertIs(parents[node].func, node, where)

    def test_no_name_is_a_generator_and_something_else(self):
        names = [node.name for _, node in self.functions if node.name in self.generators]
        for name in names:
            self.assertEqual(sum(node.name == name for _, node in self.functions), 1, name)

    def test_sets_stand_where_they_may(self):
        for node, where, parents in self.nodes():
            if not is_set(node) or is_set(parents[node]):
                continue
            above = parents[node]
            here = called_name(above) in ("len", "sorted") and not above.keywords
            if isinstance(above, ast.Compare):
                here = isinstance(above.ops[0], (ast.In, ast.NotIn, ast.Eq, ast.NotEq)) and above.left is not node
            if isinstance(above, ast.Assign):
                here = isinstance(above.targets[0], ast.Name)
            self.assertTrue(here, where)

    def test_properties_are_read_only_and_change_nothing(self):
        found = [(name, node) for name, node in self.functions if node.decorator_list]
        names = [node.name for _, node in found]
        self.assertEqual(len(names), len(set(names)))
        for name, node in found:
            self.assertEqual([ast.unparse(mark) for mark in node.decorator_list], ["property"], (name, node.name))
            self.assertEqual([part.arg for part in node.args.args], ["self"])
            for part in ast.walk(node):
                self.assertNotIsInstance(part, (ast.Assign, ast.AugAssign, ast.Delete), (name, node.name))
            self.assertEqual([other for _, other in self.functions if other.name == node.name], [node])
        for node, where, parents in self.nodes():
            if isinstance(node, ast.Attribute) and node.attr in names:
                self.assertIsInstance(node.ctx, ast.Load, where)
                self.assertIsNot(getattr(parents[node], "func", None), node, where)

    def test_loops_do_not_change_what_they_go_over(self):
        for node, where, parents in self.nodes():
            if isinstance(node, ast.For):
                over = {part.id for part in ast.walk(node.iter) if isinstance(part, ast.Name)}
                for part in [part for row in node.body for part in ast.walk(row)]:
                    if isinstance(part, ast.Call) and isinstance(part.func, ast.Attribute):
                        if part.func.attr in ("append", "extend", "insert", "pop", "remove", "clear", "setdefault"):
                            self.assertNotIn(ast.unparse(part.func.value), over, where)
                    if isinstance(part, ast.Subscript) and not isinstance(part.ctx, ast.Load):
                        self.assertNotIn(ast.unparse(part.value), over, where)

    def test_what_stands_behind_finally(self):
        plain = (ast.Assign, ast.Name, ast.Attribute, ast.Tuple, ast.Load, ast.Store)
        for node, where, parents in self.nodes():
            if isinstance(node, ast.Try):
                for part in [part for row in node.finalbody for part in ast.walk(row)]:
                    self.assertIsInstance(part, plain, where)

    def test_operators_and_iteration(self):
        for node, where, parents in self.nodes():
            if isinstance(node, ast.FunctionDef) and node.name == "__iter__":
                self.assertRegex(ast.unparse(node.body[-1]), r"^return iter\(self\.[a-z_]+\)$", where)
                self.assertEqual(len(node.body), 1, where)
            if isinstance(node, ast.FunctionDef) and node.name == "__len__":
                self.assertRegex(ast.unparse(node.body[-1]), r"^return len\(self\.[a-z_]+\)$", where)
            if isinstance(node, ast.FunctionDef) and node.name == "__eq__":
                self.assertRegex(ast.unparse(node.body[-1]), r"^return isinstance\(other, [A-Z][A-Za-z]+\) and self", where)
