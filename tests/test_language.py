"""The package's files keep to the rules of LANGUAGE.md that can be seen in a file's form."""

import ast
import builtins
import re
import unittest
from pathlib import Path

PACKAGE = Path(__file__).resolve().parent.parent / "earlysift"

OWN_NAMES = set(
    "len range enumerate zip min max sum abs sorted reversed int str bool list tuple dict set frozenset isinstance "
    "ord repr any all divmod Exception ValueError TypeError KeyError IndexError LookupError ZeroDivisionError "
    "ArithmeticError OverflowError RuntimeError NotImplementedError AttributeError StopIteration".split()
)
METHODS = set(
    "append clear copy count endswith extend find get index insert isalnum isalpha isdigit islower isspace isupper "
    "items join keys ljust lower lstrip partition pop remove replace reverse rfind rjust rpartition rsplit rstrip "
    "setdefault split splitlines startswith strip update upper values zfill bit_length".split()
)
CHANGES = set("append clear extend insert pop remove reverse setdefault update".split())
SPECIAL = set("__init__ __eq__ __repr__ __str__ __len__".split())
NEVER = set(
    "register mro elements open input version_info with_traceback add_note format format_map attrgetter breakpoint "
    "builtins compile copyright credits delattr dir eval exec exit gc getattr globals hasattr help id importlib "
    "license locals methodcaller os quit setattr super type vars sys".split()
)
WORDS = re.compile(
    r"\b(type|typing|typing_extensions|enum|Enum|IntEnum|StrEnum|Flag|IntFlag|Generic|Protocol|ABC|ABCMeta|"
    r"namedtuple|NamedTuple|TypedDict|TYPE_CHECKING|abstractmethod)\b|dataclass|overload|contextmanager"
)
NODES = (
    ast.Module, ast.ImportFrom, ast.alias, ast.FunctionDef, ast.arguments, ast.arg, ast.ClassDef, ast.Assign,
    ast.AugAssign, ast.If, ast.While, ast.For, ast.Return, ast.Break, ast.Continue, ast.Pass, ast.Raise, ast.Try,
    ast.ExceptHandler, ast.Expr, ast.Call, ast.keyword, ast.Name, ast.Attribute, ast.Subscript, ast.Slice,
    ast.Constant, ast.List, ast.Tuple, ast.Dict, ast.BinOp, ast.UnaryOp, ast.BoolOp, ast.Compare, ast.IfExp,
    ast.ListComp, ast.comprehension, ast.JoinedStr, ast.FormattedValue, ast.Lambda, ast.Load, ast.Store,
    ast.operator, ast.unaryop, ast.boolop, ast.cmpop,
)
WALKED = set("zip enumerate reversed range".split())
WALKERS = set("list tuple dict sorted sum any all enumerate zip min max".split())


def is_call(node, names):
    return isinstance(node, ast.Call) and isinstance(node.func, ast.Name) and node.func.id in names


def bound_at_top(tree):
    names = []
    for node in tree.body:
        if isinstance(node, (ast.FunctionDef, ast.ClassDef)):
            names.append(node.name)
        elif isinstance(node, ast.ImportFrom):
            names.extend(alias.asname or alias.name for alias in node.names)
        elif isinstance(node, ast.Assign):
            names.append(node.targets[0].id)
    return names


class Language(unittest.TestCase):
    def setUp(self):
        paths = sorted(path for path in PACKAGE.rglob("*") if "__pycache__" not in path.parts)
        self.paths = [path for path in paths if path.is_file()]
        self.sources = {path.stem: path.read_text(encoding="utf-8") for path in self.paths}
        self.trees = {stem: ast.parse(source) for stem, source in self.sources.items()}

    def nodes(self, *kinds):
        for stem, tree in self.trees.items():
            for node in ast.walk(tree):
                if isinstance(node, kinds):
                    yield f"{stem}:{getattr(node, 'lineno', 0)}", node

    def test_files(self):
        self.assertTrue(self.paths)
        for path in self.paths:
            self.assertEqual(path.parent, PACKAGE)
            self.assertRegex(path.name, r"^([a-z][a-z0-9_]*|__init__|__main__)\.py$")
            self.assertFalse(path.stem.startswith("test") or path.stem in ("site", "conftest"))
            self.assertNotIn(path.stem, dir(builtins))

    def test_signs_words_and_size(self):
        for stem, source in self.sources.items():
            self.assertRegex(source, r"\A[ -~\n]*\Z", stem)
            self.assertIsNone(WORDS.search(source), stem)
            lines = source.splitlines()
            self.assertLessEqual(len(lines), 400, stem)
            self.assertLessEqual(max(len(line) for line in lines), 120, stem)
        for place, node in self.nodes(ast.FunctionDef):
            self.assertLessEqual(node.end_lineno - node.lineno + 1, 40, place)

    def test_imports(self):
        drawn = {stem: [] for stem in self.trees}
        for stem, tree in self.trees.items():
            for node in tree.body:
                if isinstance(node, ast.ImportFrom) and node.module != "__future__":
                    self.assertEqual(node.level, 0, stem)
                    package, _, source = node.module.partition(".")
                    self.assertEqual(package, "earlysift", stem)
                    drawn[stem].append(source)
                    defined = [one.name for one in self.trees[source].body if hasattr(one, "name")]
                    defined += [one.targets[0].id for one in self.trees[source].body if isinstance(one, ast.Assign)]
                    for alias in node.names:
                        self.assertIn(alias.name, defined, stem)
        while drawn:
            free = [stem for stem in drawn if not set(drawn[stem]) & set(drawn)]
            self.assertTrue(free, "files that draw from one another")
            drawn = {stem: sources for stem, sources in drawn.items() if stem not in free}

    def test_the_top_of_each_file(self):
        for stem, tree in self.trees.items():
            self.assertIsNotNone(ast.get_docstring(tree), stem)
            for node in tree.body[1:]:
                self.assertIsInstance(node, (ast.ImportFrom, ast.FunctionDef, ast.ClassDef, ast.Assign), stem)
            names = bound_at_top(tree)
            self.assertEqual(len(names), len(set(names)), stem)

    def test_only_the_forms_that_are_allowed(self):
        for place, node in self.nodes(ast.AST):
            self.assertIsInstance(node, NODES, place)
        for place, node in self.nodes(ast.Div, ast.MatMult):
            self.fail(place)
        for place, node in self.nodes(ast.Assign):
            self.assertEqual(len(node.targets), 1, place)
            self.assertIsInstance(node.targets[0], (ast.Name, ast.Attribute, ast.Subscript), place)
        for place, node in self.nodes(ast.For, ast.While):
            self.assertEqual(node.orelse, [], place)
        for place, node in self.nodes(ast.ListComp):
            self.assertEqual(len(node.generators), 1, place)
            self.assertLessEqual(len(node.generators[0].ifs), 1, place)
        for place, node in self.nodes(ast.Try):
            self.assertEqual(node.finalbody, [], place)
        for place, node in self.nodes(ast.BinOp):
            if isinstance(node.op, ast.Pow):
                self.assertIsInstance(node.right, ast.Constant, place)

    def test_expressions_by_themselves_are_calls(self):
        for stem, tree in self.trees.items():
            for node in ast.walk(tree):
                if isinstance(node, ast.Expr) and node is not tree.body[0]:
                    self.assertIsInstance(node.value, ast.Call, f"{stem}:{node.lineno}")

    def test_functions_and_classes(self):
        for place, node in self.nodes(ast.FunctionDef):
            self.assertEqual(node.decorator_list, [], place)
            found = node.args
            self.assertFalse(found.vararg or found.kwarg or found.kwonlyargs or found.posonlyargs, place)
            self.assertIsNone(node.returns, place)
            self.assertTrue(all(arg.annotation is None for arg in found.args), place)
        for place, node in self.nodes(ast.ClassDef):
            self.assertEqual((node.decorator_list, node.keywords), ([], []), place)
            self.assertLessEqual(len(node.bases), 1, place)
            for piece in node.body:
                self.assertIsInstance(piece, (ast.FunctionDef, ast.Pass), place)
            methods = [piece.name for piece in node.body if isinstance(piece, ast.FunctionDef)]
            self.assertEqual(len(methods), len(set(methods)), place)

    def test_constants(self):
        for place, node in self.nodes(ast.Constant):
            self.assertIn(type(node.value), (int, str, bool, type(None)), place)
            if isinstance(node.value, str):
                self.assertNotIn("%", node.value, place)

    def test_names(self):
        for place, node in self.nodes(ast.Name):
            self.assertNotIn(node.id, NEVER, place)
            self.assertFalse(node.id.startswith("_"), place)
            if node.id in dir(builtins):
                self.assertIsInstance(node.ctx, ast.Load, place)
                self.assertIn(node.id, OWN_NAMES, place)
        for place, node in self.nodes(ast.arg):
            self.assertNotIn(node.arg, dir(builtins), place)
            self.assertFalse(node.arg.startswith("_"), place)
        for place, node in self.nodes(ast.FunctionDef, ast.ClassDef):
            self.assertTrue(node.name in SPECIAL or not node.name.startswith("_"), place)
            self.assertNotIn(node.name, NEVER, place)
            if node.col_offset == 0:
                self.assertNotIn(node.name, dir(builtins), place)

    def test_locals_are_not_called_like_classes_or_imports(self):
        for stem, tree in self.trees.items():
            taken = [node.name for node in tree.body if isinstance(node, ast.ClassDef)]
            for node in tree.body:
                if isinstance(node, ast.ImportFrom):
                    taken.extend(alias.asname or alias.name for alias in node.names)
            for node in ast.walk(tree):
                if isinstance(node, ast.arg):
                    self.assertNotIn(node.arg, taken, stem)
                if isinstance(node, ast.Name) and isinstance(node.ctx, ast.Store):
                    self.assertNotIn(node.id, taken, stem)

    def test_attributes_and_methods(self):
        own = {piece.name for _, node in self.nodes(ast.ClassDef) for piece in node.body if hasattr(piece, "name")}
        kept = {node.attr for _, node in self.nodes(ast.Attribute) if isinstance(node.ctx, ast.Store)}
        self.assertEqual(own & kept, set())
        called = {id(node.func) for _, node in self.nodes(ast.Call)}
        for place, node in self.nodes(ast.Attribute):
            self.assertNotIn(node.attr, NEVER, place)
            if id(node) in called:
                self.assertIn(node.attr, METHODS | own, place)
            else:
                self.assertIn(node.attr, kept, place)

    def test_attributes_and_methods_are_not_called_like_those_of_pythons_own_values(self):
        taken = {name for one in ("", 0, [], (), {}, set(), b"") for name in dir(one)}
        own = {piece.name for _, node in self.nodes(ast.ClassDef) for piece in node.body if hasattr(piece, "name")}
        kept = {node.attr for _, node in self.nodes(ast.Attribute) if isinstance(node.ctx, ast.Store)}
        free = set("count index title find get join lower upper split strip copy add".split())
        self.assertEqual(kept & taken - free, set())
        self.assertEqual(own & taken - METHODS - SPECIAL - {"add", "discard"}, set())

    def test_lists_and_dicts_at_the_top_hold_none_and_are_only_read(self):
        for stem, tree in self.trees.items():
            rows = [node for node in tree.body if isinstance(node, ast.Assign)]
            for row in rows:
                inside = [node for node in ast.walk(row.value) if isinstance(node, (ast.List, ast.Dict))]
                self.assertTrue(all(node is row.value for node in inside), stem)
            names = [row.targets[0].id for row in rows if isinstance(row.value, (ast.List, ast.Dict))]
            read = set()
            for node in ast.walk(tree):
                if isinstance(node, ast.Subscript) and isinstance(node.ctx, ast.Load):
                    read.add(id(node.value))
                if isinstance(node, ast.Compare):
                    read.update(id(one) for one in node.comparators)
                if isinstance(node, (ast.For, ast.comprehension)):
                    read.add(id(node.iter))
            for node in ast.walk(tree):
                if isinstance(node, ast.Name) and isinstance(node.ctx, ast.Load) and node.id in names:
                    self.assertIn(id(node), read, stem)

    def test_is_stands_beside_none_true_and_false(self):
        for place, node in self.nodes(ast.Compare):
            for op, right in zip(node.ops, node.comparators):
                if isinstance(op, (ast.Is, ast.IsNot)):
                    self.assertIsInstance(right, ast.Constant, place)
                    self.assertTrue(right.value is None or isinstance(right.value, bool), place)

    def test_what_is_walked_is_walked_at_once(self):
        walked = set()
        for _, node in self.nodes(ast.For, ast.comprehension):
            walked.add(id(node.iter))
        for _, node in self.nodes(ast.Call):
            if is_call(node, WALKERS) and node.args:
                walked.add(id(node.args[0]))
                if node.func.id == "zip":
                    walked.update(id(arg) for arg in node.args)
        for place, node in self.nodes(ast.Call):
            kept = isinstance(node.func, ast.Attribute) and node.func.attr in ("items", "keys", "values")
            if kept or is_call(node, WALKED):
                self.assertIn(id(node), walked, place)

    def test_what_a_loop_walks_is_not_changed_in_it(self):
        for place, loop in self.nodes(ast.For):
            over = loop.iter
            over = over.args if is_call(over, WALKED) else [over]
            texts = [ast.unparse(one) for one in over]
            for node in ast.walk(loop):
                if isinstance(node, ast.Subscript) and isinstance(node.ctx, ast.Store):
                    self.assertNotIn(ast.unparse(node.value), texts, place)
                if isinstance(node, ast.Call) and isinstance(node.func, ast.Attribute) and node.func.attr in CHANGES:
                    self.assertNotIn(ast.unparse(node.func.value), texts, place)

    def test_sets_are_not_kept(self):
        asked = set()
        for _, node in self.nodes(ast.Compare):
            asked.update(id(one) for one in ast.walk(node))
        for _, node in self.nodes(ast.Call):
            if is_call(node, {"sorted", "len"}):
                asked.update(id(one) for one in ast.walk(node))
        for place, node in self.nodes(ast.Call):
            if is_call(node, {"set", "frozenset"}):
                self.assertIn(id(node), asked, place)

    def test_errors_taken(self):
        for place, node in self.nodes(ast.ExceptHandler):
            self.assertIsNotNone(node.type, place)
            names = [one.id for one in ast.walk(node.type) if isinstance(one, ast.Name)]
            self.assertFalse({"Exception", "TypeError"} & set(names), place)
        for place, node in self.nodes(ast.Raise):
            self.assertIsInstance(node.exc, ast.Call, place)


if __name__ == "__main__":
    unittest.main()
