"""The package's files against those rules of their language that can be seen in their trees."""

import ast
import builtins
import re
import unittest
from pathlib import Path

PACKAGE = Path(__file__).resolve().parent.parent / "followmost"
FILES = sorted(PACKAGE.glob("*.py"))

OWN_NAMES = set("""len range enumerate zip min max sum abs sorted reversed int str bool list tuple dict set
    frozenset isinstance ord repr any all divmod Exception ValueError TypeError KeyError IndexError LookupError
    ZeroDivisionError ArithmeticError OverflowError RuntimeError NotImplementedError AttributeError
    StopIteration""".split())
OWN_METHODS = set("""append clear copy count endswith extend find get index insert isalnum isalpha isdigit islower
    isspace isupper items join keys ljust lower lstrip partition pop remove replace reverse rfind rjust rpartition
    rsplit rstrip setdefault split splitlines startswith strip update upper values zfill bit_length""".split())
NO_NAMES = set("""register mro elements open input version_info with_traceback add_note attrgetter breakpoint
    builtins compile copyright credits delattr dir eval exec exit gc getattr globals hasattr help id importlib
    license locals methodcaller os quit setattr super type vars sys""".split())
NO_WORDS = re.compile(r"\b(type|typing|typing_extensions|enum|Enum|IntEnum|StrEnum|Flag|IntFlag|Generic|Protocol|ABC"
                      r"|ABCMeta|namedtuple|NamedTuple|TypedDict|TYPE_CHECKING|abstractmethod)\b"
                      r"|dataclass|overload|contextmanager")
NODES = set("""Module Expr Constant ImportFrom alias FunctionDef ClassDef arguments arg Assign AugAssign If While For
    Return Break Continue Pass Raise Try ExceptHandler Call keyword Name Attribute Subscript Slice List Tuple Dict
    ListComp comprehension BinOp UnaryOp BoolOp Compare IfExp JoinedStr FormattedValue Lambda Load Store
    Add Sub Mult FloorDiv Mod Pow BitAnd BitOr BitXor LShift RShift Invert Not UAdd USub And Or
    Eq NotEq Lt LtE Gt GtE Is IsNot In NotIn""".split())
WALKED = {"zip", "enumerate", "reversed", "range", "items", "keys", "values"}
WALKERS = {"list", "tuple", "dict", "sorted", "sum", "any", "all", "enumerate", "zip"}
KEYWORDS = {"sorted": {"key", "reverse"}, "min": {"key", "default"}, "max": {"key", "default"},
            "sum": {"start"}, "enumerate": {"start"}, "zip": {"strict"}}
CHANGING = {"append", "clear", "extend", "insert", "pop", "remove", "reverse", "setdefault", "update"}
METHODS = {"__init__", "__eq__", "__repr__", "__str__", "__len__"}


def called(node):
    """The name of the function or method that a call calls, or None."""
    if not isinstance(node, ast.Call):
        return None
    return getattr(node.func, "id", None) or getattr(node.func, "attr", None)


def walked_by(node, above):
    """Whether what stands above a node walks it on the spot."""
    if isinstance(above, (ast.For, ast.comprehension)):
        return above.iter is node
    name = called(above)
    if name == "join":
        return isinstance(above.func, ast.Attribute) and isinstance(above.func.value, ast.Constant)
    if name in ("min", "max"):
        return above.args == [node]
    return name in WALKERS and above.args[:1] == [node]


def trees():
    return [(path, ast.parse(path.read_text())) for path in FILES]


def bound(tree):
    """The names that a file's top binds itself, one for each time."""
    names = []
    for node in tree.body:
        if isinstance(node, (ast.FunctionDef, ast.ClassDef)):
            names.append(node.name)
        elif isinstance(node, ast.Assign):
            names.extend(target.id for target in node.targets)
    return names


def drawn(tree):
    return [node for node in ast.walk(tree) if isinstance(node, (ast.Import, ast.ImportFrom))]


class Language(unittest.TestCase):

    def each(self, *kinds):
        for path, tree in trees():
            for node in ast.walk(tree):
                if isinstance(node, kinds):
                    yield node, f"{path.name}:{getattr(node, 'lineno', 0)}"

    def test_the_folder(self):
        for path in PACKAGE.iterdir():
            if path.name != "__pycache__":
                self.assertRegex(path.name, r"^([a-z][a-z0-9_]*|__init__|__main__)\.py$")
                self.assertNotIn(path.stem, dir(builtins))
        self.assertIn(PACKAGE / "__init__.py", FILES)

    def test_sizes_and_signs(self):
        for path in FILES:
            text = path.read_bytes().decode("ascii")
            self.assertRegex(text, r"\A[ -~\n]*\Z", path)
            self.assertLessEqual(len(text.splitlines()), 400, path)
            self.assertLessEqual(max(map(len, text.splitlines())), 120, path)
            self.assertIsNone(NO_WORDS.search(text), path)
        for node, place in self.each(ast.FunctionDef):
            self.assertLessEqual(node.end_lineno - node.lineno + 1, 40, place)

    def test_only_what_is_in_the_language(self):
        for node, place in self.each(ast.AST):
            self.assertIn(type(node).__name__, NODES, place)

    def test_plain_values(self):
        for node, place in self.each(ast.Constant):
            self.assertIn(type(node.value), (int, str, bool, type(None)), place)
            if isinstance(node.value, str):
                self.assertNotIn("%", node.value, place)

    def test_statements(self):
        for node, place in self.each(ast.Assign):
            self.assertEqual(len(node.targets), 1, place)
            self.assertNotIsInstance(node.targets[0], (ast.Tuple, ast.List), place)
        for node, place in self.each(ast.For, ast.While):
            self.assertEqual(node.orelse, [], place)
        for node, place in self.each(ast.Try):
            self.assertEqual(node.finalbody, [], place)
        for node, place in self.each(ast.Raise):
            self.assertIsInstance(node.exc, ast.Call, place)
        for node, place in self.each(ast.ListComp):
            self.assertEqual(len(node.generators), 1, place)
            self.assertLessEqual(len(node.generators[0].ifs), 1, place)
        for path, tree in trees():
            for node in ast.walk(tree):
                if isinstance(node, ast.Expr) and node not in tree.body[:1]:
                    self.assertIsInstance(node.value, ast.Call, f"{path.name}:{node.lineno}")

    def test_is_beside_none_and_truths_alone(self):
        for node, place in self.each(ast.Compare):
            for sign, side in zip(node.ops, node.comparators):
                if isinstance(sign, (ast.Is, ast.IsNot)):
                    self.assertTrue(isinstance(side, ast.Constant) and side.value in (None, True, False), place)

    def test_functions_and_classes(self):
        for node, place in self.each(ast.FunctionDef):
            rest = (node.args.vararg, node.args.kwarg, node.args.kwonlyargs, node.args.posonlyargs)
            self.assertEqual(rest, (None, None, [], []), place)
            self.assertEqual(node.decorator_list, [], place)
        for node, place in self.each(ast.ClassDef):
            self.assertEqual((node.decorator_list, node.keywords), ([], []), place)
            self.assertLessEqual(len(node.bases), 1, place)
            for part in node.body:
                self.assertIsInstance(part, (ast.FunctionDef, ast.Pass), place)

    def test_no_name_is_a_method_here_and_a_value_there(self):
        methods = {part.name for node, place in self.each(ast.ClassDef) for part in node.body
                   if isinstance(part, ast.FunctionDef)}
        for node, place in self.each(ast.Attribute):
            if isinstance(node.ctx, ast.Store):
                self.assertNotIn(node.attr, methods, place)
                self.assertIsInstance(node.value, ast.Name, place)

    def test_texts_with_names_in_them(self):
        for node, place in self.each(ast.FormattedValue):
            self.assertIsInstance(node.value, ast.Name, place)
            self.assertIsNone(node.format_spec, place)

    def test_values_at_a_files_top(self):
        for path, tree in trees():
            for node in tree.body:
                if isinstance(node, ast.Assign):
                    for part in ast.walk(node.value):
                        kinds = (ast.Constant, ast.Tuple, ast.Load, ast.Name)
                        self.assertIsInstance(part, kinds if part != node.value else kinds + (ast.List, ast.Dict),
                                              f"{path.name}:{node.lineno}")

    def test_what_a_loop_walks_is_not_changed_in_it(self):
        for node, place in self.each(ast.For):
            walked = {part.id for part in ast.walk(node.iter) if isinstance(part, ast.Name)}
            for part in ast.walk(ast.Module(node.body, [])):
                if isinstance(part, ast.Call) and isinstance(part.func, ast.Attribute):
                    if part.func.attr in CHANGING and isinstance(part.func.value, ast.Name):
                        self.assertNotIn(part.func.value.id, walked, place)
                if isinstance(part, ast.Subscript) and isinstance(part.ctx, ast.Store):
                    self.assertNotIn(getattr(part.value, "id", None), walked, place)

    def test_names(self):
        for node, place in self.each(ast.Name, ast.arg, ast.FunctionDef, ast.ClassDef, ast.Attribute):
            name = getattr(node, "id", None) or getattr(node, "arg", None) \
                or getattr(node, "name", None) or node.attr
            if name not in METHODS:
                self.assertRegex(name, r"^[A-Za-z][A-Za-z0-9_]*$", place)
            self.assertNotIn(name, NO_NAMES, place)
            if isinstance(node, ast.Name) and isinstance(node.ctx, ast.Load):
                self.assertTrue(name in OWN_NAMES or name not in dir(builtins), (name, place))
            elif not isinstance(node, ast.Attribute):
                self.assertNotIn(name, dir(builtins), place)

    def test_no_local_is_called_like_an_import_or_a_class(self):
        for path, tree in trees():
            taken = {part.name for node in drawn(tree) for part in node.names}
            taken |= {node.name for node in tree.body if isinstance(node, ast.ClassDef)}
            for node in ast.walk(tree):
                if isinstance(node, ast.arg):
                    self.assertNotIn(node.arg, taken, path)
                if isinstance(node, ast.Name) and isinstance(node.ctx, ast.Store):
                    self.assertNotIn(node.id, taken, path)
            self.assertEqual(len(bound(tree)), len(set(bound(tree))), path)

    def test_methods_called(self):
        own = {node.name for node, place in self.each(ast.FunctionDef)}
        for node, place in self.each(ast.Call):
            if isinstance(node.func, ast.Attribute):
                self.assertIn(node.func.attr, OWN_METHODS | own, place)

    def test_walked_on_the_spot(self):
        for above, place in self.each(ast.AST):
            for node in ast.iter_child_nodes(above):
                if called(node) in WALKED:
                    self.assertTrue(walked_by(node, above), place)

    def test_keywords(self):
        own = {node.name for node, place in self.each(ast.FunctionDef, ast.ClassDef)}
        for node, place in self.each(ast.Call):
            given = {part.arg for part in node.keywords}
            if called(node) not in own:
                self.assertLessEqual(given, KEYWORDS.get(called(node), set()), place)

    def test_the_top_of_a_file(self):
        for path, tree in trees():
            self.assertIsInstance(ast.get_docstring(tree), str, path)
            for node in tree.body[1:]:
                kinds = (ast.ImportFrom, ast.FunctionDef, ast.ClassDef, ast.Assign)
                self.assertIsInstance(node, kinds, f"{path.name}:{node.lineno}")

    def test_imports(self):
        above = {}
        tops = {path.stem: bound(tree) for path, tree in trees()}
        for path, tree in trees():
            above[path.stem] = set()
            for node in drawn(tree):
                place = f"{path.name}:{node.lineno}"
                self.assertIn(node, tree.body, place)
                self.assertIsInstance(node, ast.ImportFrom, place)
                self.assertEqual(node.level, 0, place)
                self.assertRegex(node.module, r"^followmost\.[a-z_]+$", place)
                stem = node.module.partition(".")[2]
                above[path.stem].add(stem)
                for part in node.names:
                    self.assertIsNone(part.asname, place)
                    self.assertIn(part.name, tops[stem], place)
        while above:
            free = [stem for stem in above if not above[stem] & set(above)]
            self.assertNotEqual(free, [], "files draw from one another")
            above = {stem: above[stem] for stem in above if stem not in free}
