"""The rules of LANGUAGE.md that a look at the package's files can show."""

import ast
import pathlib
import re
import unittest

ROOT = pathlib.Path(__file__).resolve().parent.parent
FOLDER = ROOT / "wholesides"
FILES = sorted(FOLDER.rglob("*.py"))

BUILTINS = set(
    "len range enumerate zip min max sum abs sorted reversed int str bool list tuple dict set "
    "isinstance ord repr any all divmod super ValueError".split())
METHODS = set(
    "append clear copy count endswith extend find get index insert isalnum isalpha isdigit "
    "islower isspace isupper items join keys ljust lower lstrip partition pop remove replace "
    "reverse rfind rjust rpartition rsplit rstrip setdefault split splitlines startswith strip "
    "update upper values zfill bit_length add discard sort isascii isdecimal".split())
DOUBLES = {"__init__"}
BARRED_WORDS = re.compile(
    r"\b(type|typing|typing_extensions|enum|Enum|IntEnum|StrEnum|Flag|IntFlag|Generic|Protocol|ABC"
    r"|ABCMeta|namedtuple|NamedTuple|TypedDict|TYPE_CHECKING|abstractmethod)\b"
    r"|dataclass|overload|contextmanager")
BARRED_NAMES = set(
    "register mro elements open input version_info with_traceback add_note attrgetter breakpoint builtins compile "
    "copyright credits delattr dir eval exec exit gc getattr globals hasattr help id importlib license locals "
    "methodcaller os quit setattr super type vars sys property staticmethod classmethod args".split())
# What iterates over its argument on the spot.
AT_ONCE = ("list", "tuple", "dict", "sorted", "sum", "any", "all", "min", "max", "join", "enumerate", "zip")
BARRED_NODES = (
    ast.Global, ast.AsyncFunctionDef, ast.AsyncFor, ast.AsyncWith, ast.Await, ast.Import,
    ast.Div, ast.MatMult)


def trees():
    return {path: ast.parse(path.read_text(encoding="utf-8")) for path in FILES}


def bound_at_top(tree):
    """The names that a module binds, once for each binding."""
    names = []
    for node in tree.body:
        if isinstance(node, (ast.FunctionDef, ast.ClassDef)):
            names.append(node.name)
        elif isinstance(node, ast.ImportFrom):
            names += [alias.asname or alias.name for alias in node.names]
        elif isinstance(node, ast.Assign):
            names += [target.id for target in node.targets]
    return names


def bound_anywhere(tree):
    names = set(bound_at_top(tree))
    for node in ast.walk(tree):
        if isinstance(node, ast.Name) and isinstance(node.ctx, ast.Store):
            names.add(node.id)
        elif isinstance(node, ast.arg):
            names.add(node.arg)
    return names


def with_parents(tree):
    """Each node, with the one above it."""
    for above in ast.walk(tree):
        for node in ast.iter_child_nodes(above):
            yield node, above


def called(node):
    """The name of the function or the method that a node calls, None where it calls none."""
    if not isinstance(node, ast.Call):
        return None
    return node.func.id if isinstance(node.func, ast.Name) else getattr(node.func, "attr", None)


class LanguageTest(unittest.TestCase):
    def test_the_folder_holds_nothing_else(self):
        self.assertIn(FOLDER / "__init__.py", FILES)
        for path in FOLDER.rglob("*"):
            if "__pycache__" not in path.parts:
                self.assertEqual(path.suffix, ".py")
                self.assertRegex(path.stem, r"\A(__init__|[a-z][a-z0-9_]*)\Z")

    def test_characters_and_sizes(self):
        for path in FILES:
            text = path.read_text(encoding="utf-8")
            self.assertRegex(text, r"\A[ -~\n]*\Z", path)
            self.assertIsNone(BARRED_WORDS.search(text), path)
            self.assertLessEqual(text.count("\n"), 400, path)
            self.assertLessEqual(max(len(line) for line in text.split("\n")), 120, path)
        for path, tree in trees().items():
            for node in ast.walk(tree):
                if isinstance(node, ast.FunctionDef):
                    self.assertLessEqual(node.end_lineno - node.lineno + 1, 40, (path, node.name))

    def test_module_level(self):
        for path, tree in trees().items():
            names = bound_at_top(tree)
            self.assertEqual(len(names), len(set(names)), path)
            for node in tree.body:
                docstring = isinstance(node, ast.Expr) and isinstance(node.value, ast.Constant)
                plain = (ast.FunctionDef, ast.ClassDef, ast.ImportFrom, ast.Assign)
                self.assertTrue(docstring or isinstance(node, plain), (path, node.lineno))

    def test_imports(self):
        reached = {}
        for path, tree in trees().items():
            reached[path.stem] = set()
            for node in ast.walk(tree):
                if isinstance(node, ast.ImportFrom):
                    self.assertEqual(node.level, 0, path)
                    package, name = node.module.split(".")
                    self.assertEqual(package, "wholesides", path)
                    source = ast.parse((FOLDER / (name + ".py")).read_text(encoding="utf-8"))
                    defined = [n.name for n in source.body if hasattr(n, "name")]
                    defined += [t.id for n in source.body if isinstance(n, ast.Assign)
                                for t in n.targets]
                    for alias in node.names:
                        self.assertIn(alias.name, defined, path)
                    reached[path.stem].add(name)
        for _ in reached:
            for name in reached:
                for other in list(reached[name]):
                    reached[name] |= reached[other]
        for name in reached:
            self.assertNotIn(name, reached[name])

    def test_nodes(self):
        for path, tree in trees().items():
            for node in ast.walk(tree):
                where = (path, getattr(node, "lineno", 0))
                self.assertNotIsInstance(node, BARRED_NODES, where)
                if isinstance(node, ast.Constant):
                    self.assertNotIsInstance(node.value, (float, complex), where)
                if isinstance(node, ast.Compare):
                    for sign, right in zip(node.ops, node.comparators):
                        if isinstance(sign, (ast.Is, ast.IsNot)):
                            self.assertIsInstance(right, ast.Constant, where)
                if isinstance(node, ast.BinOp) and isinstance(node.op, ast.Pow):
                    self.assertIsInstance(node.right, ast.Constant, where)

    def test_names(self):
        own = {node.name for tree in trees().values() for node in ast.walk(tree)
               if isinstance(node, (ast.FunctionDef, ast.ClassDef))}
        stored = {node.attr for tree in trees().values() for node in ast.walk(tree)
                  if isinstance(node, ast.Attribute) and isinstance(node.ctx, ast.Store)}
        for path, tree in trees().items():
            bound = bound_anywhere(tree)
            for name in bound:
                self.assertRegex(name, r"\A[A-Za-z][A-Za-z0-9_]*\Z", path)
                self.assertNotIn(name, dir(__import__("builtins")), path)
            for node in ast.walk(tree):
                if isinstance(node, ast.Name):
                    self.assertIn(node.id, bound | BUILTINS, (path, node.lineno))
                if isinstance(node, ast.Attribute):
                    known = METHODS | DOUBLES | own | stored
                    self.assertIn(node.attr, known, (path, node.lineno))

    def test_locals_have_no_import_s_or_class_s_name(self):
        for path, tree in trees().items():
            taken = set()
            for node in tree.body:
                if isinstance(node, ast.ImportFrom):
                    taken |= {alias.asname or alias.name for alias in node.names}
                if isinstance(node, ast.ClassDef):
                    taken.add(node.name)
            for node in ast.walk(tree):
                if isinstance(node, ast.Name) and isinstance(node.ctx, ast.Store):
                    self.assertNotIn(node.id, taken, (path, node.lineno))
                if isinstance(node, ast.arg):
                    self.assertNotIn(node.arg, taken, (path, node.lineno))

    def test_no_name_is_a_method_and_an_attribute(self):
        methods, attributes = set(), set()
        for tree in trees().values():
            for node in ast.walk(tree):
                if isinstance(node, ast.ClassDef):
                    methods |= {inner.name for inner in node.body if isinstance(inner, ast.FunctionDef)}
                if isinstance(node, ast.Attribute) and isinstance(node.ctx, ast.Store):
                    attributes.add(node.attr)
        self.assertEqual(methods & attributes, set())
        self.assertEqual((methods | attributes) & (METHODS - {"index", "count"}), set())
        self.assertEqual({name for name in methods if name.startswith("__")} - DOUBLES, set())

    def test_barred_names(self):
        for path, tree in trees().items():
            named = {node.name for node in ast.walk(tree) if isinstance(node, (ast.FunctionDef, ast.ClassDef))}
            self.assertEqual((named | bound_anywhere(tree)) & BARRED_NAMES, set(), path)

    def test_what_is_iterated_at_once(self):
        for path, tree in trees().items():
            for node, above in with_parents(tree):
                name = called(node)
                if name in ("zip", "enumerate", "reversed", "range", "items", "keys", "values"):
                    iterated = isinstance(above, (ast.For, ast.comprehension)) and above.iter == node
                    self.assertTrue(iterated or called(above) in AT_ONCE, (path, node.lineno))
                if isinstance(node, ast.GeneratorExp):
                    self.assertIn(called(above), AT_ONCE, (path, node.lineno))

    def test_sets_stand_where_they_may(self):
        for path, tree in trees().items():
            for node, above in with_parents(tree):
                if isinstance(node, (ast.Set, ast.SetComp)) or called(node) == "set":
                    joined = isinstance(above, ast.BinOp) and isinstance(above.op, (ast.BitXor, ast.BitAnd, ast.BitOr, ast.Sub))
                    right = joined or called(above) in ("sorted", "len") or isinstance(above, ast.Compare)
                    self.assertTrue(right, (path, node.lineno))

    def test_errors_are_made_on_the_spot(self):
        known = {node.name for node in ast.walk(trees()[FOLDER / "errors.py"]) if isinstance(node, ast.ClassDef)}
        for path, tree in trees().items():
            for node in ast.walk(tree):
                self.assertNotIsInstance(node, (ast.Try, ast.With, ast.Assert, ast.Match), path)
                if isinstance(node, ast.Raise):
                    self.assertIn(called(node.exc), known, (path, node.lineno))
                    self.assertEqual(len(node.exc.args), 1)

    def test_builtins_are_called(self):
        for path, tree in trees().items():
            for node, above in with_parents(tree):
                if isinstance(node, ast.Name) and node.id in BUILTINS - {"ValueError"}:
                    right = isinstance(above, ast.Call) and (above.func == node or called(above) == "isinstance")
                    self.assertTrue(right, (path, node.lineno))

    def test_tables_at_module_level_are_only_read(self):
        for path, tree in trees().items():
            tables = {target.id for node in tree.body if isinstance(node, ast.Assign) for target in node.targets
                      if isinstance(node.value, (ast.Dict, ast.List))}
            for node, above in with_parents(tree):
                if isinstance(node, ast.Name) and node.id in tables and isinstance(node.ctx, ast.Load):
                    index = isinstance(above, ast.Subscript) and isinstance(above.ctx, ast.Load)
                    asked = isinstance(above, ast.Attribute) and above.attr == "get"
                    self.assertTrue(index or asked or isinstance(above, ast.Compare), (path, node.lineno))


if __name__ == "__main__":
    unittest.main()
