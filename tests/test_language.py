"""The rules of LANGUAGE.md that a look at the files of the package can see."""

import ast
import builtins
import pathlib
import re
import unittest

FOLDER = pathlib.Path(__file__).resolve().parent.parent / "ringvouch"
ALLOWED = set(
    "len range enumerate zip min max sum abs sorted reversed int str bool bytes list tuple dict set frozenset "
    "isinstance ord repr any all divmod iter next super property staticmethod classmethod Exception ValueError "
    "TypeError KeyError IndexError LookupError ZeroDivisionError ArithmeticError OverflowError RuntimeError "
    "NotImplementedError AttributeError StopIteration NotImplemented".split()
)
METHODS = set(
    "append clear copy count endswith extend find get index insert isalnum isalpha isdigit islower isspace isupper "
    "items join keys ljust lower lstrip partition pop remove replace reverse rfind rjust rpartition rsplit rstrip "
    "setdefault split splitlines startswith strip update upper values zfill bit_length add discard".split()
)
BARRED_WORDS = set(
    "type typing typing_extensions enum Enum IntEnum StrEnum Flag IntFlag Generic Protocol ABC ABCMeta namedtuple "
    "NamedTuple TypedDict TYPE_CHECKING abstractmethod".split()
)
BARRED_NAMES = set(
    "register mro elements open input law version_info with_traceback add_note attrgetter breakpoint builtins compile "
    "copyright credits delattr dir eval exec exit gc getattr globals hasattr help id importlib license locals "
    "methodcaller os quit setattr type vars sys".split()
)
BARRED_NODES = (
    ast.Global, ast.AsyncFunctionDef, ast.AsyncFor, ast.AsyncWith, ast.Await, ast.Import, ast.Div, ast.MatMult,
)
DOUBLE = set("__init__ __eq__ __repr__ __str__ __len__ __enter__ __exit__ __call__ __iter__".split())


def files():
    return sorted(FOLDER.glob("*.py"))


def trees():
    return [(path, ast.parse(path.read_text())) for path in files()]


def nodes(kind):
    return [(path.name, node) for path, tree in trees() for node in ast.walk(tree) if isinstance(node, kind)]


def bound_names(tree):
    """Every name that a file gives a meaning of its own, arguments and imports included."""
    names = []
    for node in ast.walk(tree):
        if isinstance(node, ast.Name) and not isinstance(node.ctx, ast.Load):
            names.append(node.id)
        elif isinstance(node, (ast.FunctionDef, ast.ClassDef)):
            names.append(node.name)
        elif isinstance(node, ast.arg):
            names.append(node.arg)
        elif isinstance(node, ast.ImportFrom):
            names.extend(alias.asname or alias.name for alias in node.names)
    return names


def top_names(tree):
    """The names bound at module level, as often as they are."""
    names = []
    for node in tree.body:
        if isinstance(node, (ast.FunctionDef, ast.ClassDef)):
            names.append(node.name)
        elif isinstance(node, ast.ImportFrom):
            names.extend(alias.asname or alias.name for alias in node.names)
        elif isinstance(node, ast.Assign):
            names.extend(target.id for target in node.targets)
    return names


def own_methods_and_attributes():
    methods, attributes = set(), set()
    for _, node in nodes(ast.ClassDef):
        methods |= {row.name for row in node.body if isinstance(row, ast.FunctionDef)}
    for _, node in nodes(ast.Attribute):
        if isinstance(node.ctx, ast.Store):
            attributes.add(node.attr)
    return methods, attributes


class LanguageTest(unittest.TestCase):
    def test_files(self):
        for path in FOLDER.iterdir():
            if path.name != "__pycache__":
                self.assertRegex(path.name, r"^([a-z][a-z0-9_]*|__init__|__main__)\.py$")
                self.assertNotIn(path.stem, dir(builtins))
        self.assertLessEqual(len(files()), 100)

    def test_characters_and_sizes(self):
        for path in files():
            text = path.read_text()
            self.assertRegex(text, r"\A[ -~\n]*\Z", path.name)
            rows = text.split("\n")
            self.assertLessEqual(len(rows), 399, path.name)
            self.assertLessEqual(max(len(row) for row in rows), 120, path.name)
        for name, node in nodes(ast.FunctionDef):
            self.assertLessEqual(node.end_lineno - node.lineno + 1, 40, (name, node.name))

    def test_imports(self):
        tops = {path.stem: tree for path, tree in trees()}
        seen = {}
        for path, tree in trees():
            seen[path.stem] = set()
            for node in [node for node in ast.walk(tree) if isinstance(node, ast.ImportFrom)]:
                self.assertIn(node, tree.body)
                self.assertRegex(node.module, r"^ringvouch\.[a-z_0-9]+$")
                other = node.module.split(".")[1]
                seen[path.stem].add(other)
                imported = {
                    alias.name for row in tops[other].body if isinstance(row, ast.ImportFrom) for alias in row.names
                }
                for alias in node.names:
                    self.assertIn(alias.name, top_names(tops[other]))
                    self.assertNotIn(alias.name, imported)
        while seen:
            free = [name for name in seen if not seen[name] & set(seen)]
            self.assertTrue(free, "files import from each other")
            seen = {name: seen[name] for name in seen if name not in free}

    def test_names(self):
        for path, tree in trees():
            for name in bound_names(tree):
                self.assertTrue(re.match(r"^[A-Za-z][A-Za-z0-9_]*$", name) or name in DOUBLE, (path.name, name))
                self.assertNotIn(name, dir(builtins), path.name)
                self.assertNotIn(name, BARRED_NAMES, path.name)
            self.assertEqual(len(top_names(tree)), len(set(top_names(tree))), path.name)
            words = set(re.findall(r"[A-Za-z_0-9]+", path.read_text()))
            self.assertFalse(words & BARRED_WORDS, path.name)
            self.assertFalse(re.search("dataclass|overload|contextmanager", path.read_text()), path.name)

    def test_locals_are_not_called_like_classes_or_imports(self):
        for path, tree in trees():
            kept = {row.name for row in tree.body if isinstance(row, ast.ClassDef)}
            kept |= {a.name for row in tree.body if isinstance(row, ast.ImportFrom) for a in row.names}
            inner = {n.id for n in ast.walk(tree) if isinstance(n, ast.Name) and isinstance(n.ctx, ast.Store)}
            inner |= {n.arg for n in ast.walk(tree) if isinstance(n, ast.arg)}
            self.assertFalse(inner & kept, path.name)

    def test_builtins(self):
        for path, tree in trees():
            for node in ast.walk(tree):
                if isinstance(node, ast.Name) and node.id in dir(builtins):
                    self.assertIn(node.id, ALLOWED, path.name)

    def test_statements_and_expressions(self):
        for path, tree in trees():
            for node in ast.walk(tree):
                self.assertNotIsInstance(node, BARRED_NODES, path.name)
                if isinstance(node, ast.Constant):
                    self.assertNotIsInstance(node.value, (float, complex), path.name)
                    if isinstance(node.value, str):
                        self.assertNotIn("%", node.value, path.name)
                if isinstance(node, ast.BinOp) and isinstance(node.op, ast.Pow):
                    self.assertIsInstance(node.right, ast.Constant, path.name)
                if isinstance(node, ast.Compare) and isinstance(node.ops[0], (ast.Is, ast.IsNot)):
                    self.assertIsInstance(node.comparators[0], ast.Constant, path.name)
                if isinstance(node, (ast.FunctionDef, ast.ClassDef)):
                    self.assertFalse(node.decorator_list, path.name)

    def test_no_generator_expression_in_a_package_with_an_equality(self):
        self.assertFalse(nodes(ast.GeneratorExp))
        self.assertFalse(nodes((ast.Yield, ast.YieldFrom)))

    def test_methods_and_attributes(self):
        methods, attributes = own_methods_and_attributes()
        self.assertFalse(methods & attributes)
        for name, node in nodes(ast.Attribute):
            known = METHODS | methods | attributes
            self.assertIn(node.attr, known, name)

    def test_sets_are_only_sorted_counted_or_asked(self):
        for path, tree in trees():
            parents = {child: node for node in ast.walk(tree) for child in ast.iter_child_nodes(node)}
            for node in ast.walk(tree):
                made = isinstance(node, (ast.Set, ast.SetComp))
                called = isinstance(node, ast.Call) and isinstance(node.func, ast.Name) and node.func.id == "set"
                if made or called:
                    above = parents[node]
                    if isinstance(above, ast.Call):
                        self.assertIn(above.func.id, ("sorted", "len"), path.name)
                    else:
                        self.assertIsInstance(above, (ast.Compare, ast.Assign, ast.BinOp), path.name)
