"""The rules of LANGUAGE.md that can be read off the package's files, by their numbers."""

import ast
import builtins
import pathlib
import re
import unittest

PACKAGE = pathlib.Path(__file__).resolve().parent.parent / "fewasks"
BUILTINS = set("""
    len range enumerate zip min max sum abs sorted reversed int str bool bytes list tuple dict set frozenset isinstance
    ord repr any all divmod Exception ValueError TypeError KeyError IndexError LookupError ZeroDivisionError
    ArithmeticError OverflowError RuntimeError NotImplementedError AttributeError StopIteration NotImplemented
    iter next""".split())
METHODS = set("""
    append clear copy count endswith extend find get index insert isalnum isalpha isdigit islower isspace isupper items
    join keys ljust lower lstrip partition pop remove replace reverse rfind rjust rpartition rsplit rstrip setdefault
    split splitlines startswith strip update upper values zfill bit_length add discard sort""".split())
DOUBLE = {"__init__", "__eq__", "__repr__", "__str__", "__len__"}
BARRED_WORDS = re.compile(r"""\b(type|typing|typing_extensions|enum|Enum|IntEnum|StrEnum|Flag|IntFlag|Generic|Protocol|
    ABC|ABCMeta|namedtuple|NamedTuple|TypedDict|TYPE_CHECKING|abstractmethod)\b|dataclass|overload|contextmanager""",
                          re.VERBOSE)
BARRED_NAMES = set("""
    register mro elements open input version_info with_traceback add_note attrgetter breakpoint builtins compile
    copyright credits delattr dir eval exec exit gc getattr globals hasattr help id importlib license locals
    methodcaller os quit setattr super type vars sys""".split())
STATEMENTS = (ast.Assign, ast.AugAssign, ast.If, ast.While, ast.For, ast.Return, ast.Break, ast.Continue, ast.Pass,
              ast.Raise, ast.Try, ast.Expr, ast.FunctionDef, ast.ClassDef, ast.ImportFrom, ast.Delete, ast.Assert)
LISTS_ONLY = {"any", "all", "min", "max", "sum", "sorted"}


def sources():
    return {path.stem: path.read_bytes().decode("ascii") for path in sorted(PACKAGE.glob("*.py"))}


def bound_names(function):
    """The parameters and the local variables of a function."""
    names = [arg.arg for arg in ast.walk(function) if isinstance(arg, ast.arg)]
    return names + [node.id for node in ast.walk(function)
                    if isinstance(node, ast.Name) and isinstance(node.ctx, (ast.Store, ast.Del))]


def is_set(node):
    called = isinstance(node, ast.Call) and isinstance(node.func, ast.Name) and node.func.id == "set"
    return called or isinstance(node, (ast.Set, ast.SetComp))


class Language(unittest.TestCase):
    @classmethod
    def setUpClass(cls):
        cls.sources = sources()
        cls.trees = {stem: ast.parse(text) for stem, text in cls.sources.items()}

    def nodes(self, kind):
        for stem, tree in self.trees.items():
            for node in ast.walk(tree):
                if isinstance(node, kind):
                    yield f"{stem}.py:{getattr(node, 'lineno', 0)}", node

    def top_names(self, stem):
        names = []
        for node in self.trees[stem].body:
            if isinstance(node, (ast.FunctionDef, ast.ClassDef)):
                names.append(node.name)
            elif isinstance(node, ast.Assign):
                names += [target.id for target in node.targets]
            elif isinstance(node, ast.ImportFrom):
                names += [alias.asname or alias.name for alias in node.names]
        return names

    def test_l1_l14_files_and_signs(self):
        others = [path.name for path in PACKAGE.iterdir() if path.suffix != ".py" and path.name != "__pycache__"]
        self.assertEqual(others, [])
        self.assertIn("__init__", self.sources)
        for stem, text in self.sources.items():
            self.assertRegex(stem, r"^(__init__|[a-z][a-z0-9_]*)$")
            self.assertFalse(hasattr(builtins, stem) and stem != "__init__", stem)
            self.assertRegex(text, r"\A[ -~\n]*\Z", stem)

    def test_l2_l16_imports(self):
        edges = {stem: set() for stem in self.sources}
        for where, node in self.nodes((ast.Import, ast.ImportFrom)):
            self.assertIsInstance(node, ast.ImportFrom, where)
            self.assertRegex(node.module, r"^fewasks\.[a-z_]+$", where)
            self.assertEqual(node.level, 0, where)
            source = node.module.split(".")[1]
            edges[where.split(".")[0]].add(source)
            own = [child for child in self.trees[source].body if not isinstance(child, ast.ImportFrom)]
            defined = [child.name for child in own if isinstance(child, (ast.FunctionDef, ast.ClassDef))]
            defined += [target.id for child in own if isinstance(child, ast.Assign) for target in child.targets]
            for alias in node.names:
                self.assertIn(alias.name, defined, where)
        while edges:
            ready = [stem for stem in edges if not edges[stem] & set(edges)]
            self.assertTrue(ready, f"imports run round: {sorted(edges)}")
            edges = {stem: edges[stem] for stem in edges if stem not in ready}

    def test_l3_l15_module_level(self):
        allowed = (ast.ImportFrom, ast.FunctionDef, ast.ClassDef, ast.Assign, ast.Expr)
        for stem, tree in self.trees.items():
            for at, node in enumerate(tree.body):
                self.assertIsInstance(node, allowed, stem)
                if isinstance(node, ast.Expr):
                    self.assertTrue(at == 0 and isinstance(node.value, ast.Constant), stem)
            names = self.top_names(stem)
            self.assertEqual(len(names), len(set(names)), stem)

    def test_l4_l5_functions_and_classes(self):
        for where, node in self.nodes((ast.FunctionDef, ast.ClassDef)):
            self.assertEqual(node.decorator_list, [], where)
            if node.name.startswith("_"):
                self.assertIn(node.name, DOUBLE, where)
        for where, node in self.nodes(ast.arguments):
            self.assertEqual(node.posonlyargs, [], where)

    def test_l6_statements(self):
        for where, node in self.nodes(ast.stmt):
            self.assertIsInstance(node, STATEMENTS, where)

    def test_l7_expressions(self):
        for where, node in self.nodes((ast.Div, ast.Constant, ast.Call)):
            self.assertNotIsInstance(node, ast.Div, where)
            if isinstance(node, ast.Constant):
                self.assertNotIsInstance(node.value, (float, complex), where)
            elif isinstance(node, ast.Call) and isinstance(node.func, ast.Name) and node.func.id in LISTS_ONLY:
                for arg in node.args:
                    self.assertNotIsInstance(arg, ast.GeneratorExp, where)

    def test_l8_builtins(self):
        for where, node in self.nodes(ast.Name):
            if hasattr(builtins, node.id):
                self.assertIn(node.id, BUILTINS, where)
                self.assertIsInstance(node.ctx, ast.Load, where)

    def test_l10_sizes(self):
        for stem, text in self.sources.items():
            lines = text.split("\n")
            self.assertLessEqual(len(lines) - 1, 400, stem)
            self.assertLessEqual(max(len(line) for line in lines), 120, stem)
            self.assertTrue(text.endswith("\n") and not text.endswith("\n\n"), stem)
        for where, node in self.nodes(ast.FunctionDef):
            self.assertLessEqual(node.end_lineno - node.lineno + 1, 40, where)

    def test_l12_l15_l17_names(self):
        for stem, tree in self.trees.items():
            held = [node.name for node in tree.body if isinstance(node, ast.ClassDef)]
            held += [alias.asname or alias.name for node in tree.body if isinstance(node, ast.ImportFrom)
                     for alias in node.names]
            for function in [node for node in ast.walk(tree) if isinstance(node, ast.FunctionDef)]:
                for name in bound_names(function):
                    where = f"{stem}.py:{function.name}: {name}"
                    self.assertRegex(name, r"^[A-Za-z][A-Za-z0-9_]*$", where)
                    self.assertNotIn(name, held, where)
                    self.assertNotIn(name, BARRED_NAMES, where)
                    self.assertFalse(hasattr(builtins, name), where)
                self.assertNotIn(function.name, BARRED_NAMES, stem)

    def test_l17_words(self):
        for stem, text in self.sources.items():
            self.assertIsNone(BARRED_WORDS.search(text), stem)

    def test_l18_l25_l26_methods_and_attributes(self):
        methods = {node.name for _, holder in self.nodes(ast.ClassDef) for node in holder.body
                   if isinstance(node, ast.FunctionDef)}
        stored = {node.attr for _, node in self.nodes(ast.Attribute) if isinstance(node.ctx, ast.Store)}
        self.assertEqual(methods & stored, set())
        own_free = {name for kind in (str, int, list, dict, set, bytes) for name in dir(kind)} - METHODS
        self.assertEqual((methods - DOUBLE) & own_free, set())
        self.assertEqual(stored & own_free, set())
        called = {id(node.func) for _, node in self.nodes(ast.Call)}
        for where, node in self.nodes(ast.Attribute):
            if id(node) in called:
                self.assertIn(node.attr, methods | METHODS | {"__init__"}, where)
            else:
                self.assertIn(node.attr, stored, where)

    def test_l19_raise(self):
        errors = {node.name for node in self.trees["errors"].body if isinstance(node, ast.ClassDef)}
        for where, node in self.nodes(ast.Raise):
            if node.exc is not None:
                self.assertIsInstance(node.exc, ast.Call, where)
                self.assertIn(node.exc.func.id, errors, where)

    def test_l20_is(self):
        for where, node in self.nodes(ast.Compare):
            for sign, right in zip(node.ops, node.comparators):
                if isinstance(sign, (ast.Is, ast.IsNot)):
                    self.assertIsInstance(right, ast.Constant, where)
                    self.assertTrue(any(right.value is value for value in (None, True, False)), where)

    def test_l23_iterated_at_once(self):
        for where, node in self.nodes(ast.Assign):
            value = node.value
            if isinstance(value, ast.Call):
                word = value.func.id if isinstance(value.func, ast.Name) else getattr(value.func, "attr", "")
                self.assertNotIn(word, {"zip", "enumerate", "reversed", "range", "items", "keys", "values"}, where)

    def test_l3_tables_of_functions(self):
        for where, node in self.nodes(ast.Call):
            self.assertNotIsInstance(node.func, (ast.Subscript, ast.Call, ast.Constant), where)

    def test_l24_stored_sets(self):
        for where, function in self.nodes(ast.FunctionDef):
            parents = {child: node for node in ast.walk(function) for child in ast.iter_child_nodes(node)}
            stored = [node.targets[0].id for node in ast.walk(function) if isinstance(node, ast.Assign) and is_set(node.value)]
            self.assertEqual(len(stored), len(set(stored)), where)
            for node in ast.walk(function):
                if isinstance(node, ast.Name) and node.id in stored and isinstance(node.ctx, ast.Load):
                    around = parents[node]
                    if isinstance(around, ast.Compare):
                        self.assertIsInstance(around.ops[0], (ast.In, ast.NotIn), where)
                    else:
                        self.assertIn(around.func.id, {"sorted", "len"}, where)
                if is_set(node) and not isinstance(parents[node], ast.Assign):
                    around = parents[node]
                    self.assertTrue(isinstance(around, ast.Compare) or around.func.id in {"sorted", "len"}, where)

    def test_l27_strings(self):
        for where, node in self.nodes(ast.Constant):
            if isinstance(node.value, str):
                self.assertNotIn(chr(37), node.value, where)
                self.assertFalse(node.value.endswith(("._", ".__")), where)
        for stem, text in self.sources.items():
            self.assertIsNone(re.search(r"\\[^nt\\\"']", text), stem)

    def test_a_comment_or_docstring_says_what_each_file_and_class_is_for(self):
        for stem, tree in self.trees.items():
            self.assertTrue(ast.get_docstring(tree), stem)
        for where, node in self.nodes(ast.ClassDef):
            self.assertTrue(ast.get_docstring(node), where)


if __name__ == "__main__":
    unittest.main()
