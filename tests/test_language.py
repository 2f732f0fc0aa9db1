"""Holds the package's own files to the part of the language that they keep to."""
import ast
import builtins
import re
import unittest
from pathlib import Path

PACKAGE = Path(__file__).resolve().parent.parent / "batchpipe"

STATEMENTS = (
    ast.FunctionDef, ast.ClassDef, ast.Return, ast.Assign, ast.AugAssign, ast.For, ast.While, ast.If, ast.Raise,
    ast.Try, ast.ImportFrom, ast.Expr, ast.Pass, ast.Break, ast.Continue,
)
EXPRESSIONS = (
    ast.BoolOp, ast.BinOp, ast.UnaryOp, ast.Lambda, ast.IfExp, ast.Dict, ast.Set, ast.ListComp, ast.Compare, ast.Call,
    ast.JoinedStr, ast.FormattedValue, ast.Constant, ast.Attribute, ast.Subscript, ast.Name, ast.List, ast.Tuple,
    ast.Slice,
)
OWN_NAMES = set(
    "len range enumerate zip min max sum abs sorted reversed int str bool list tuple dict set frozenset isinstance ord "
    "repr any all divmod Exception ValueError TypeError KeyError IndexError LookupError ZeroDivisionError "
    "ArithmeticError OverflowError RuntimeError NotImplementedError AttributeError StopIteration".split()
)
OWN_METHODS = set(
    "append clear copy count endswith extend find get index insert isalnum isalpha isdigit islower isspace isupper "
    "items join keys ljust lower lstrip partition pop remove replace reverse rfind rjust rpartition rsplit rstrip "
    "setdefault split splitlines startswith strip update upper values zfill bit_length".split()
)
WALKS = {"zip", "enumerate", "reversed", "range"}
DICT_WALKS = {"items", "keys", "values"}
WALKERS = {"list", "tuple", "dict", "sorted", "sum", "any", "all", "enumerate", "zip"}
KEYWORDS = {
    "sorted": {"key", "reverse"}, "min": {"key", "default"}, "max": {"key", "default"}, "sum": {"start"},
    "enumerate": {"start"}, "zip": {"strict"},
}
SPECIAL_METHODS = {"__init__", "__eq__", "__repr__", "__str__", "__len__"}
BARRED_NAMES = set(
    "register mro elements open input version_info with_traceback add_note attrgetter breakpoint builtins compile "
    "copyright credits delattr dir eval exec exit gc getattr globals hasattr help id importlib license locals "
    "methodcaller os quit setattr super vars sys print chr".split()
)
BARRED_WORDS = re.compile(
    r"\b(type|typing|typing_extensions|enum|Enum|IntEnum|StrEnum|Flag|IntFlag|Generic|Protocol|ABC|ABCMeta|namedtuple"
    r"|NamedTuple|TypedDict|TYPE_CHECKING|abstractmethod)\b|dataclass|overload|contextmanager"
)


def package_files():
    return sorted(path for path in PACKAGE.rglob("*") if path.is_file() and "__pycache__" not in path.parts)


def names_bound_or_read(tree):
    for node in ast.walk(tree):
        if isinstance(node, ast.Name):
            yield node.id, node.lineno
        elif isinstance(node, ast.Attribute):
            yield node.attr, node.lineno
        elif isinstance(node, ast.arg):
            yield node.arg, node.lineno
        elif isinstance(node, (ast.FunctionDef, ast.ClassDef)):
            yield node.name, node.lineno


def own_methods_of(trees):
    found = set()
    for tree in trees:
        for node in ast.walk(tree):
            if isinstance(node, ast.ClassDef):
                found.update(part.name for part in node.body if isinstance(part, ast.FunctionDef))
    return found


def is_plain(node, defined):
    """Whether a value is one that may stand at the top of a file or as a default."""
    if isinstance(node, ast.UnaryOp):
        return isinstance(node.op, ast.USub) and is_plain(node.operand, defined)
    if isinstance(node, (ast.List, ast.Tuple)):
        return all(is_plain(part, defined) for part in node.elts)
    if isinstance(node, ast.Dict):
        return all(is_plain(part, defined) for part in node.keys + node.values)
    return isinstance(node, ast.Constant) or isinstance(node, ast.Name) and node.id in defined


def parents_of(tree):
    return {child: node for node in ast.walk(tree) for child in ast.iter_child_nodes(node)}


def is_call_of(node, names):
    return isinstance(node, ast.Call) and isinstance(node.func, ast.Name) and node.func.id in names


def is_walk(node):
    """Whether it is one of those that are walked on the spot, not kept."""
    if is_call_of(node, WALKS):
        return True
    return isinstance(node, ast.Call) and isinstance(node.func, ast.Attribute) and node.func.attr in DICT_WALKS


def walks_at_once(node, parents):
    parent = parents[node]
    if isinstance(parent, (ast.For, ast.comprehension)):
        return parent.iter is node
    if is_call_of(parent, WALKERS):
        return parent.args[0] is node or parent.func.id == "zip"
    if is_call_of(parent, {"min", "max"}):
        return parent.args == [node]
    return isinstance(parent, ast.Call) and isinstance(parent.func, ast.Attribute) and parent.func.attr == "join"


def only_reads(node, parents):
    """Whether a name stands where its list or dict is read: by an index, a walk, in, or get."""
    parent = parents[node]
    if isinstance(parent, ast.Subscript):
        return parent.value is node and isinstance(parent.ctx, ast.Load)
    if isinstance(parent, ast.Compare):
        return node in parent.comparators
    if isinstance(parent, ast.Attribute):
        return parent.attr == "get"
    return isinstance(parent, (ast.For, ast.comprehension)) and parent.iter is node


class Language(unittest.TestCase):
    @classmethod
    def setUpClass(cls):
        cls.texts = {path.name: path.read_bytes().decode("ascii") for path in package_files()}
        cls.trees = {name: ast.parse(text) for name, text in cls.texts.items()}

    def nodes(self):
        for name, tree in self.trees.items():
            for node in ast.walk(tree):
                if hasattr(node, "lineno"):
                    yield f"{name}:{node.lineno}", node

    def test_files(self):
        self.assertIn("__init__.py", self.texts)
        for path in package_files():
            self.assertRegex(path.name, r"^(__init__|__main__|[a-z][a-z0-9_]*)\.py$")

    def test_signs_and_sizes(self):
        for name, text in self.texts.items():
            self.assertRegex(text, r"^[ -~\n]*$", name)
            lines = text.splitlines()
            self.assertLessEqual(len(lines), 400, name)
            self.assertLessEqual(max(len(line) for line in lines), 120, name)
            self.assertIsNone(BARRED_WORDS.search(text), name)
        for where, node in self.nodes():
            if isinstance(node, ast.FunctionDef):
                self.assertLessEqual(node.end_lineno - node.lineno + 1, 40, where)

    def test_statements_and_expressions(self):
        for where, node in self.nodes():
            if isinstance(node, ast.stmt):
                self.assertIsInstance(node, STATEMENTS, where)
            if isinstance(node, ast.expr):
                self.assertIsInstance(node, EXPRESSIONS, where)
            if isinstance(node, ast.Constant):
                self.assertIn(type(node.value), (int, str, bool, type(None)), where)
            if isinstance(node, ast.Assign):
                self.assertEqual(len(node.targets), 1, where)
            if isinstance(node, (ast.For, ast.While)):
                self.assertEqual(node.orelse, [], where)
            if isinstance(node, ast.Try):
                self.assertEqual(node.finalbody, [], where)
            if isinstance(node, (ast.BinOp, ast.AugAssign)):
                self.assertNotIsInstance(node.op, (ast.Div, ast.MatMult), where)

    def test_what_stands_by_itself_is_a_call_or_a_files_docstring(self):
        for name, tree in self.trees.items():
            for node in ast.walk(tree):
                if isinstance(node, ast.Expr) and node is not tree.body[0]:
                    self.assertIsInstance(node.value, ast.Call, f"{name}:{node.lineno}")

    def test_imports_are_of_the_very_file(self):
        for where, node in self.nodes():
            if isinstance(node, ast.ImportFrom):
                self.assertEqual(node.level, 0, where)
                self.assertRegex(node.module, r"^batchpipe\.[a-z_]+$", where)
                tops = self.trees[node.module.split(".")[1] + ".py"].body
                defined = {part.name for part in tops if isinstance(part, (ast.FunctionDef, ast.ClassDef))}
                defined |= {part.targets[0].id for part in tops if isinstance(part, ast.Assign)}
                self.assertLessEqual({alias.name for alias in node.names}, defined, where)

    def test_defs_and_classes_are_plain(self):
        for where, node in self.nodes():
            if isinstance(node, (ast.FunctionDef, ast.ClassDef)):
                self.assertEqual(node.decorator_list, [], where)
            if isinstance(node, ast.FunctionDef):
                self.assertEqual((node.args.vararg, node.args.kwarg, node.args.kwonlyargs), (None, None, []), where)
            if isinstance(node, ast.ClassDef):
                self.assertLessEqual(len(node.bases), 1, where)
                for part in node.body:
                    self.assertIsInstance(part, (ast.FunctionDef, ast.Pass), where)

    def test_names(self):
        pythons = set(dir(builtins))
        for name, tree in self.trees.items():
            for word, line in names_bound_or_read(tree):
                where = f"{name}:{line} {word}"
                if word not in SPECIAL_METHODS:
                    self.assertRegex(word, r"^[A-Za-z][A-Za-z0-9_]*$", where)
                self.assertNotIn(word, BARRED_NAMES, where)
            for node in ast.walk(tree):
                if isinstance(node, ast.Name) and node.id in pythons:
                    self.assertIn(node.id, OWN_NAMES, f"{name}:{node.lineno}")
                    self.assertIsInstance(node.ctx, ast.Load, f"{name}:{node.lineno}")
                if isinstance(node, ast.arg):
                    self.assertNotIn(node.arg, pythons, f"{name}:{node.lineno}")

    def test_methods_that_are_called(self):
        free = OWN_METHODS | own_methods_of(self.trees.values()) | SPECIAL_METHODS
        for where, node in self.nodes():
            if isinstance(node, ast.Call) and isinstance(node.func, ast.Attribute):
                self.assertIn(node.func.attr, free, where)

    def test_is_stands_beside_none_true_and_false_alone(self):
        for where, node in self.nodes():
            if isinstance(node, ast.Compare):
                for op, right in zip(node.ops, node.comparators):
                    if isinstance(op, (ast.Is, ast.IsNot)):
                        self.assertIsInstance(right, ast.Constant, where)
                        self.assertIn(type(right.value), (bool, type(None)), where)

    def test_the_top_of_a_file(self):
        for name, tree in self.trees.items():
            bound = []
            for number, node in enumerate(tree.body):
                where = f"{name}:{node.lineno}"
                if isinstance(node, (ast.FunctionDef, ast.ClassDef)):
                    bound.append(node.name)
                elif isinstance(node, ast.ImportFrom):
                    bound.extend(alias.asname or alias.name for alias in node.names)
                elif isinstance(node, ast.Assign):
                    self.assertIsInstance(node.targets[0], ast.Name, where)
                    self.assertTrue(is_plain(node.value, bound), where)
                    bound.append(node.targets[0].id)
                else:
                    self.assertTrue(number == 0 and isinstance(node, ast.Expr), where)
            self.assertEqual(len(set(bound)), len(bound), name)

    def test_defaults_are_plain_and_nothing_is_annotated(self):
        for where, node in self.nodes():
            if isinstance(node, ast.FunctionDef):
                self.assertIsNone(node.returns, where)
                for default in node.args.defaults:
                    self.assertTrue(is_plain(default, []), where)
            if isinstance(node, ast.arg):
                self.assertIsNone(node.annotation, where)

    def test_no_local_is_called_like_a_class_or_an_import_of_its_file(self):
        pythons = set(dir(builtins))
        for name, tree in self.trees.items():
            taken = set(pythons)
            for node in tree.body:
                if isinstance(node, ast.ClassDef):
                    taken.add(node.name)
                elif isinstance(node, ast.ImportFrom):
                    taken.update(alias.asname or alias.name for alias in node.names)
            for node in ast.walk(tree):
                if isinstance(node, ast.arg):
                    self.assertNotIn(node.arg, taken, f"{name}:{node.lineno}")
                if isinstance(node, ast.Name) and isinstance(node.ctx, ast.Store):
                    self.assertNotIn(node.id, taken, f"{name}:{node.lineno}")

    def test_no_two_files_draw_from_one_another(self):
        drawn = {
            name: {node.module.split(".")[1] + ".py" for node in tree.body if isinstance(node, ast.ImportFrom)}
            for name, tree in self.trees.items()
        }
        left = dict(drawn)
        while left:
            free = [name for name, others in left.items() if not others & set(left)]
            self.assertNotEqual(free, [], sorted(left))
            left = {name: others for name, others in left.items() if name not in free}

    def test_no_name_is_a_method_here_and_a_value_there(self):
        stored = {
            node.attr for where, node in self.nodes()
            if isinstance(node, ast.Attribute) and isinstance(node.ctx, ast.Store)
        }
        self.assertEqual(stored & own_methods_of(self.trees.values()), set())
        for kind in [str, int, list, dict, set, bytes]:
            self.assertEqual(stored & set(dir(kind)), set())

    def test_comprehensions_and_f_strings_are_plain(self):
        for where, node in self.nodes():
            if isinstance(node, ast.ListComp):
                self.assertEqual(len(node.generators), 1, where)
                self.assertLessEqual(len(node.generators[0].ifs), 1, where)
            if isinstance(node, ast.FormattedValue):
                self.assertIsInstance(node.value, ast.Name, where)
                self.assertIsNone(node.format_spec, where)
            if isinstance(node, ast.Constant) and isinstance(node.value, str):
                self.assertNotIn("%", node.value, where)
            if isinstance(node, ast.BinOp) and isinstance(node.op, ast.Pow):
                self.assertIsInstance(node.right, ast.Constant, where)

    def test_keywords_at_names_of_pythons_own(self):
        for where, node in self.nodes():
            if isinstance(node, ast.Call) and isinstance(node.func, ast.Name) and node.func.id in OWN_NAMES:
                self.assertLessEqual({word.arg for word in node.keywords}, KEYWORDS.get(node.func.id, set()), where)

    def test_what_is_walked_is_walked_at_once(self):
        for name, tree in self.trees.items():
            parents = parents_of(tree)
            for node in ast.walk(tree):
                if is_walk(node):
                    self.assertTrue(walks_at_once(node, parents), f"{name}:{node.lineno}")

    def test_no_set_is_kept(self):
        for name, tree in self.trees.items():
            parents = parents_of(tree)
            for node in ast.walk(tree):
                if isinstance(node, ast.Set) or is_call_of(node, {"set", "frozenset"}):
                    parent = parents[node]
                    fits = isinstance(parent, (ast.Compare, ast.BinOp)) or is_call_of(parent, {"sorted", "len"})
                    self.assertTrue(fits, f"{name}:{node.lineno}")

    def test_lists_and_dicts_of_a_files_top_are_only_read(self):
        for name, tree in self.trees.items():
            kept = {
                node.targets[0].id: node.value for node in tree.body
                if isinstance(node, ast.Assign) and isinstance(node.value, (ast.List, ast.Dict))
            }
            for value in kept.values():
                within = [part for part in ast.walk(value) if part is not value]
                self.assertEqual([part for part in within if isinstance(part, (ast.List, ast.Dict))], [], name)
            parents = parents_of(tree)
            for node in ast.walk(tree):
                if isinstance(node, ast.Name) and node.id in kept and isinstance(node.ctx, ast.Load):
                    self.assertTrue(only_reads(node, parents), f"{name}:{node.lineno}")

    def test_errors_are_raised_and_taken_by_name(self):
        for where, node in self.nodes():
            if isinstance(node, ast.ExceptHandler):
                self.assertIsNotNone(node.type, where)
                taken = node.type.elts if isinstance(node.type, ast.Tuple) else [node.type]
                self.assertLessEqual({"Exception", "TypeError"} & {error.id for error in taken}, set(), where)
            if isinstance(node, ast.Raise):
                self.assertIsInstance(node.exc, ast.Call, where)


if __name__ == "__main__":
    unittest.main()
