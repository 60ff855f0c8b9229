"""The package keeps to the small part of Python told in shared/LANGUAGE.md; the rules' numbers stand at the tests."""

import ast
import builtins
import pathlib
import re
import unittest

PACKAGE = pathlib.Path(__file__).resolve().parent.parent / "leasttolls"
FILES = sorted(PACKAGE.glob("*.py"))

OWN_NAMES = set("""
len range enumerate zip min max sum abs sorted reversed int str bool list tuple dict set frozenset isinstance ord
repr any all divmod Exception ValueError TypeError KeyError IndexError LookupError ZeroDivisionError ArithmeticError
OverflowError RuntimeError NotImplementedError AttributeError StopIteration
""".split())
METHODS = set("""
append clear copy count endswith extend find get index insert isalnum isalpha isdigit islower isspace isupper items
join keys ljust lower lstrip partition pop remove replace reverse rfind rjust rpartition rsplit rstrip setdefault
split splitlines startswith strip update upper values zfill bit_length
""".split())
DUNDERS = {"__init__", "__eq__", "__repr__", "__str__", "__len__"}
WORDS_OUT = set("""
type typing typing_extensions enum Enum IntEnum StrEnum Flag IntFlag Generic Protocol ABC ABCMeta namedtuple
NamedTuple TypedDict TYPE_CHECKING abstractmethod
""".split())
NAMES_OUT = set("""
register mro elements open input version_info with_traceback add_note attrgetter breakpoint builtins compile
copyright credits delattr dir eval exec exit gc getattr globals hasattr help id importlib license locals
methodcaller os quit setattr super type vars sys format format_map chr print
""".split())
NODES = (
    ast.Module, ast.FunctionDef, ast.ClassDef, ast.ImportFrom, ast.alias, ast.arguments, ast.arg, ast.Lambda,
    ast.Assign, ast.AugAssign, ast.If, ast.While, ast.For, ast.Return, ast.Break, ast.Continue, ast.Pass, ast.Raise,
    ast.Try, ast.ExceptHandler, ast.Expr, ast.Constant, ast.List, ast.Tuple, ast.Dict, ast.Set, ast.BinOp, ast.BoolOp,
    ast.UnaryOp, ast.Compare, ast.IfExp, ast.Call, ast.keyword, ast.Attribute, ast.Subscript, ast.Slice, ast.Name,
    ast.ListComp, ast.comprehension, ast.JoinedStr, ast.FormattedValue, ast.expr_context, ast.operator, ast.boolop,
    ast.unaryop, ast.cmpop,
)
PLAIN_VALUES = (ast.Constant, ast.Tuple, ast.Load)
CHANGES = {"append", "clear", "extend", "insert", "pop", "remove", "reverse", "setdefault", "update"}
KEYWORDS = {"sorted": {"key", "reverse"}, "min": {"key", "default"}, "max": {"key", "default"}, "sum": {"start"},
            "enumerate": {"start"}, "zip": {"strict"}}


def trees():
    return [(path, ast.parse(path.read_text(encoding="ascii"))) for path in FILES]


def nodes(kinds):
    return [(path, node) for path, tree in trees() for node in ast.walk(tree) if isinstance(node, kinds)]


def bound_names(tree):
    for node in ast.walk(tree):
        if isinstance(node, (ast.FunctionDef, ast.ClassDef)):
            yield node.name
        elif isinstance(node, ast.arg):
            yield node.arg
        elif isinstance(node, ast.Name) and isinstance(node.ctx, ast.Store):
            yield node.id
        elif isinstance(node, ast.ExceptHandler) and node.name is not None:
            yield node.name


class Files(unittest.TestCase):
    def test_l1_l14_the_folder_holds_plain_files_alone(self):
        for path in PACKAGE.iterdir():
            if path.name != "__pycache__":
                self.assertRegex(path.name, r"^([a-z][a-z0-9_]*|__init__|__main__)\.py$")
                self.assertNotIn(path.stem, dir(builtins))

    def test_l10_sizes(self):
        for path in FILES:
            rows = path.read_text(encoding="ascii").split("\n")
            self.assertLessEqual(len(rows), 400, path)
            self.assertLessEqual(max(len(row) for row in rows), 120, path)
        for path, node in nodes(ast.FunctionDef):
            self.assertLessEqual(node.end_lineno - node.lineno + 1, 40, (path, node.name))

    def test_l14_l17_l27_signs_and_words(self):
        for path in FILES:
            text = path.read_text(encoding="ascii")
            self.assertRegex(text, r"\A[ -~\n]*\Z", path)
            self.assertEqual(set(re.findall(r"\w+", text)) & WORDS_OUT, set(), path)
            self.assertNotRegex(text, "dataclass|overload|contextmanager", path)
        for path, node in nodes(ast.Constant):
            if isinstance(node.value, str):
                self.assertNotIn("%", node.value, path)


class Forms(unittest.TestCase):
    def test_l6_l7_nodes(self):
        for path, tree in trees():
            for node in ast.walk(tree):
                self.assertIsInstance(node, NODES, (path, getattr(node, "lineno", 0)))
        for path, node in nodes((ast.Div, ast.MatMult)):
            self.fail((path, "no / and no @"))
        for path, node in nodes(ast.Constant):
            self.assertTrue(node.value is None or isinstance(node.value, (int, str)), (path, node.lineno))

    def test_l6_statements(self):
        for path, node in nodes((ast.For, ast.While)):
            self.assertEqual(node.orelse, [], (path, node.lineno))
        for path, node in nodes(ast.Try):
            self.assertEqual(node.finalbody, [], (path, node.lineno))
        for path, node in nodes(ast.Assign):
            self.assertEqual(len(node.targets), 1, (path, node.lineno))
            self.assertNotIsInstance(node.targets[0], (ast.Tuple, ast.List), (path, node.lineno))
        docstrings = {(path, tree.body[0].value.lineno) for path, tree in trees()}
        for path, node in nodes(ast.Expr):
            said = isinstance(node.value, ast.Call) or (path, node.lineno) in docstrings
            self.assertTrue(said, (path, node.lineno))

    def test_l7_comprehensions(self):
        for path, node in nodes(ast.ListComp):
            self.assertEqual(len(node.generators), 1, (path, node.lineno))
            self.assertLessEqual(len(node.generators[0].ifs), 1, (path, node.lineno))

    def test_l2_l16_imports(self):
        for path, node in nodes(ast.ImportFrom):
            self.assertEqual(node.level, 0, path)
            self.assertRegex(node.module, r"^leasttolls\.[a-z_]+$", path)
            drawn = ast.parse((PACKAGE / (node.module.split(".")[1] + ".py")).read_text(encoding="ascii"))
            defined = [name for row in drawn.body for name in bound_names(row)]
            for alias in node.names:
                self.assertIn(alias.name, defined, path)
                self.assertIsNone(alias.asname, path)

    def test_l16_no_two_files_draw_from_one_another(self):
        drawn = {path.stem: set() for path in FILES}
        for path, node in nodes(ast.ImportFrom):
            drawn[path.stem].add(node.module.split(".")[1])
        while drawn:
            free = [name for name in drawn if not drawn[name] & set(drawn)]
            self.assertTrue(free, drawn)
            for name in free:
                drawn.pop(name)

    def test_l3_l15_the_top_of_a_file(self):
        for path, tree in trees():
            self.assertIsInstance(tree.body[0], ast.Expr, path)
            for row in tree.body[1:]:
                self.assertIsInstance(row, (ast.ImportFrom, ast.FunctionDef, ast.ClassDef, ast.Assign), path)
            tops = [row.name if hasattr(row, "name") else row.targets[0].id
                    for row in tree.body[1:] if not isinstance(row, ast.ImportFrom)]
            self.assertEqual(len(tops), len(set(tops)), path)
            for row in tree.body[1:]:
                if isinstance(row, ast.Assign):
                    for node in ast.walk(row.value):
                        kinds = (*PLAIN_VALUES, ast.Dict) if node is row.value else PLAIN_VALUES
                        self.assertIsInstance(node, kinds, (path, row.lineno))

    def test_l15_a_dict_of_the_top_is_only_read(self):
        for path, tree in trees():
            kept = {row.targets[0].id for row in tree.body
                    if isinstance(row, ast.Assign) and isinstance(row.value, ast.Dict)}
            read = set()
            for node in ast.walk(tree):
                if isinstance(node, ast.Subscript) and isinstance(node.ctx, ast.Load):
                    read.add(id(node.value))
                if isinstance(node, ast.Compare):
                    read.update(id(side) for side in node.comparators)
            for node in ast.walk(tree):
                if isinstance(node, ast.Name) and node.id in kept and isinstance(node.ctx, ast.Load):
                    self.assertIn(id(node), read, (path, node.lineno))

    def test_l4_l5_l21_functions_and_classes(self):
        for path, node in nodes((ast.FunctionDef, ast.Lambda)):
            args = node.args
            self.assertIsNone(args.vararg, path)
            self.assertIsNone(args.kwarg, path)
            self.assertEqual(args.kwonlyargs + args.posonlyargs, [], path)
            self.assertEqual([arg.arg for arg in args.args if arg.annotation is not None], [], path)
        for path, node in nodes((ast.FunctionDef, ast.ClassDef)):
            self.assertEqual(node.decorator_list, [], path)
        for path, node in nodes(ast.ClassDef):
            self.assertLessEqual(len(node.bases), 1, path)
            for row in node.body:
                self.assertIsInstance(row, (ast.FunctionDef, ast.Pass), (path, row.lineno))


class Names(unittest.TestCase):
    def test_l8_pythons_own_names(self):
        for path, tree in trees():
            imported = {alias.name for node in ast.walk(tree) if isinstance(node, ast.ImportFrom)
                        for alias in node.names}
            bound = set(bound_names(tree))
            for node in ast.walk(tree):
                if isinstance(node, ast.Name):
                    self.assertIn(node.id, OWN_NAMES | imported | bound, (path, node.lineno))

    def test_l12_l15_l17_bound_names(self):
        for path, tree in trees():
            top_classes = {row.name for row in tree.body if isinstance(row, ast.ClassDef)}
            imported = {alias.name for row in tree.body if isinstance(row, ast.ImportFrom) for alias in row.names}
            for name in bound_names(tree):
                if name not in DUNDERS:
                    self.assertRegex(name, r"^[A-Za-z][A-Za-z0-9_]*$", path)
                    self.assertNotIn(name, dir(builtins), path)
                    self.assertNotIn(name, NAMES_OUT, path)
                    self.assertNotIn(name, imported, path)
            for node in ast.walk(tree):
                if isinstance(node, ast.arg):
                    self.assertNotIn(node.arg, top_classes, path)

    def test_l25_l26_methods(self):
        own = {node.name for path, node in nodes(ast.FunctionDef)}
        own_values = {node.attr for path, node in nodes(ast.Attribute) if isinstance(node.ctx, ast.Store)}
        for path, node in nodes(ast.Attribute):
            self.assertIn(node.attr, METHODS | own | own_values, (path, node.lineno))
            self.assertNotIn(node.attr, NAMES_OUT, (path, node.lineno))

    def test_l22_keywords(self):
        for path, node in nodes(ast.Call):
            if node.keywords and isinstance(node.func, ast.Name):
                said = {keyword.arg for keyword in node.keywords}
                self.assertLessEqual(said, KEYWORDS.get(node.func.id, said), (path, node.lineno))
                self.assertTrue(node.func.id not in OWN_NAMES or node.func.id in KEYWORDS, (path, node.lineno))

    def test_l20_is_beside_none_and_truths(self):
        for path, node in nodes(ast.Compare):
            for at, sign in enumerate(node.ops):
                if isinstance(sign, (ast.Is, ast.IsNot)):
                    sides = [node.left, *node.comparators][at:at + 2]
                    beside = [side for side in sides if isinstance(side, ast.Constant) and not isinstance(side.value, str)]
                    self.assertTrue(beside, (path, node.lineno))

    def test_l27_no_power_of_an_unwritten_number(self):
        for path, node in nodes(ast.BinOp):
            if isinstance(node.op, ast.Pow):
                self.assertIsInstance(node.right, ast.Constant, (path, node.lineno))
                self.assertLessEqual(node.right.value, 64, (path, node.lineno))


class Errors(unittest.TestCase):
    def test_l19_errors_are_the_programs_own_and_made_on_the_spot(self):
        own = {node.name for path, node in nodes(ast.ClassDef) if path.stem == "errors"}
        for path, node in nodes(ast.ExceptHandler):
            self.assertIsInstance(node.type, ast.Name, (path, node.lineno))
            self.assertIn(node.type.id, own, (path, node.lineno))
        for path, node in nodes(ast.Raise):
            self.assertIsInstance(node.exc, ast.Call, (path, node.lineno))
            self.assertIn(node.exc.func.id, own, (path, node.lineno))


class Calls(unittest.TestCase):
    def test_l23_walked_on_the_spot(self):
        walkers = {"zip", "enumerate", "reversed", "range"}
        takers = {"list", "tuple", "dict", "sorted", "sum", "any", "all", "enumerate", "zip", "min", "max"}
        for path, tree in trees():
            walked = set()
            for node in ast.walk(tree):
                if isinstance(node, (ast.For, ast.comprehension)):
                    walked.add(id(node.iter))
                if isinstance(node, ast.Call) and isinstance(node.func, ast.Name) and node.func.id in takers:
                    walked.update(id(arg) for arg in node.args[:1])
            for node in ast.walk(tree):
                if isinstance(node, ast.Call) and isinstance(node.func, ast.Name) and node.func.id in walkers:
                    self.assertIn(id(node), walked, (path, node.lineno))

    def test_l23_what_a_loop_walks_is_not_changed_in_it(self):
        for path, loop in nodes(ast.For):
            walked = {ast.unparse(node) for node in ast.walk(loop.iter) if isinstance(node, (ast.Name, ast.Attribute))}
            for node in [inner for row in loop.body for inner in ast.walk(row)]:
                if isinstance(node, ast.Call) and isinstance(node.func, ast.Attribute) and node.func.attr in CHANGES:
                    self.assertNotIn(ast.unparse(node.func.value), walked, (path, node.lineno))
                if isinstance(node, ast.Subscript) and isinstance(node.ctx, ast.Store):
                    self.assertNotIn(ast.unparse(node.value), walked, (path, node.lineno))

    def test_l24_sets_are_neither_kept_nor_walked(self):
        for path, tree in trees():
            beside = set()
            for node in ast.walk(tree):
                if isinstance(node, ast.Call) and isinstance(node.func, ast.Name) and node.func.id in ("sorted", "len"):
                    if not node.keywords:
                        beside.update(id(arg) for arg in node.args)
                if isinstance(node, ast.Compare):
                    beside.update(id(side) for side in [node.left, *node.comparators])
            for node in ast.walk(tree):
                if isinstance(node, ast.Call) and isinstance(node.func, ast.Name) and node.func.id in ("set", "frozenset"):
                    self.assertIn(id(node), beside, (path, node.lineno))
        self.assertEqual(nodes(ast.Set), [])

    def test_l18_no_name_is_a_method_and_a_value(self):
        methods = [row.name for path, node in nodes(ast.ClassDef) for row in node.body
                   if isinstance(row, ast.FunctionDef)]
        own_values = {node.attr for path, node in nodes(ast.Attribute) if isinstance(node.ctx, ast.Store)}
        self.assertEqual(set(methods) & own_values, set())
        for path, node in nodes(ast.ClassDef):
            named = [row.name for row in node.body if isinstance(row, ast.FunctionDef)]
            self.assertEqual(len(named), len(set(named)), (path, node.name))


if __name__ == "__main__":
    unittest.main()
