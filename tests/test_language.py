"""The rules of LANGUAGE.md that can be read off the code with certainty; the rest is left to the eye."""

import ast
import builtins
import pathlib
import re
import unittest

import windfleet

FOLDER = pathlib.Path(windfleet.__file__).parent
BUILTINS = set(
    "len range enumerate zip min max sum abs sorted reversed int str bool bytes list tuple dict set frozenset"
    " isinstance ord repr any all divmod Exception ValueError TypeError KeyError IndexError LookupError"
    " ZeroDivisionError ArithmeticError OverflowError RuntimeError NotImplementedError AttributeError StopIteration"
    " NotImplemented property staticmethod classmethod super".split()
)
BARRED_WORDS = re.compile(
    r"\b(type|typing|typing_extensions|enum|Enum|IntEnum|StrEnum|Flag|IntFlag|Generic|Protocol|ABC|ABCMeta|namedtuple"
    r"|NamedTuple|TypedDict|TYPE_CHECKING|abstractmethod)\b|dataclass|overload|contextmanager"
)
BARRED_NODES = (ast.Global, ast.AsyncFunctionDef, ast.AsyncFor, ast.AsyncWith, ast.Await, ast.Import, ast.Div)
TAKE_A_LIST = ("any", "all", "min", "max", "sum", "sorted")


def sources():
    return {path.stem: path.read_text("ascii") for path in sorted(FOLDER.glob("*.py"))}


def trees():
    return {name: ast.parse(text) for name, text in sources().items()}


def own_names(tree):
    """The names that a module binds by itself, with what binds them."""
    names = {}
    for node in tree.body:
        if isinstance(node, (ast.FunctionDef, ast.ClassDef)):
            names[node.name] = node
        elif isinstance(node, ast.Assign):
            names[node.targets[0].id] = node
        elif isinstance(node, ast.AnnAssign):
            names[node.target.id] = node
    return names


def imports_of(tree):
    return [node for node in ast.walk(tree) if isinstance(node, ast.ImportFrom) and node.module != "__future__"]


class Files(unittest.TestCase):
    def test_nothing_but_plain_files(self):
        for path in FOLDER.iterdir():
            if path.name != "__pycache__":
                self.assertRegex(path.name, r"^([a-z][a-z0-9_]*|__init__|__main__)\.py$")
        self.assertIn("__init__", sources())
        self.assertLessEqual(len(sources()), 100)

    def test_signs_and_sizes(self):
        for name, text in sources().items():
            self.assertRegex(text, r"\A[ -~\n]*\Z", name)
            lines = text.splitlines()
            self.assertLessEqual(len(lines), 400, name)
            self.assertLessEqual(max([len(line) for line in lines], default=0), 120, name)

    def test_functions_of_at_most_forty_lines(self):
        for name, tree in trees().items():
            for node in ast.walk(tree):
                if isinstance(node, ast.FunctionDef):
                    self.assertLessEqual(node.end_lineno - node.lineno + 1, 40, (name, node.name))

    def test_words_that_are_not_used(self):
        for name, text in sources().items():
            self.assertIsNone(BARRED_WORDS.search(text), name)


class Imports(unittest.TestCase):
    def test_from_the_very_file_that_defines_the_name_at_the_top(self):
        every = trees()
        for name, tree in every.items():
            for node in imports_of(tree):
                self.assertEqual(0, node.level, name)
                self.assertIn(node, tree.body, name)
                self.assertRegex(node.module, r"^windfleet\.[a-z0-9_]+$")
                for alias in node.names:
                    self.assertIn(alias.name, own_names(every[node.module.split(".")[1]]), (name, node.module))

    def test_no_two_files_from_each_other(self):
        wanted = {name: {node.module.split(".")[1] for node in imports_of(tree)} for name, tree in trees().items()}
        while wanted:
            free = [name for name in wanted if not wanted[name] & set(wanted)]
            self.assertTrue(free, wanted)
            for name in free:
                del wanted[name]

    def test_every_import_is_used(self):
        for name, tree in trees().items():
            used = {node.id for node in ast.walk(tree) if isinstance(node, ast.Name)}
            for node in imports_of(tree):
                for alias in node.names:
                    self.assertIn(alias.asname or alias.name, used, name)


class Code(unittest.TestCase):
    def test_module_level(self):
        for name, tree in trees().items():
            if name == "__main__":
                continue
            for at, node in enumerate(tree.body):
                docstring = at == 0 and isinstance(node, ast.Expr) and isinstance(node.value, ast.Constant)
                plain = (ast.ImportFrom, ast.FunctionDef, ast.ClassDef, ast.Assign, ast.AnnAssign)
                self.assertTrue(docstring or isinstance(node, plain), (name, node.lineno))

    def test_each_name_bound_once(self):
        for name, tree in trees().items():
            bound = [alias.asname or alias.name for node in imports_of(tree) for alias in node.names]
            for node in tree.body:
                if isinstance(node, (ast.FunctionDef, ast.ClassDef)):
                    bound.append(node.name)
                elif isinstance(node, ast.Assign):
                    bound.extend(target.id for target in node.targets)
            self.assertEqual(len(set(bound)), len(bound), name)

    def test_nodes_that_are_not_used(self):
        for name, tree in trees().items():
            for node in ast.walk(tree):
                if name != "__main__":
                    self.assertNotIsInstance(node, BARRED_NODES, (name, getattr(node, "lineno", 0)))
                if isinstance(node, ast.Constant):
                    self.assertNotIsInstance(node.value, (float, complex), name)
                    if isinstance(node.value, str):
                        self.assertNotIn("%", node.value, name)
                if isinstance(node, ast.ExceptHandler):
                    self.assertIsNotNone(node.type, name)

    def test_is_stands_beside_none_and_truths_alone(self):
        for name, tree in trees().items():
            for node in ast.walk(tree):
                if isinstance(node, ast.Compare) and isinstance(node.ops[0], (ast.Is, ast.IsNot)):
                    right = node.comparators[0]
                    self.assertTrue(isinstance(right, ast.Constant), (name, node.lineno))
                    self.assertTrue(right.value is None or isinstance(right.value, bool), (name, node.lineno))

    def test_plain_names(self):
        for name, tree in trees().items():
            for node in ast.walk(tree):
                bound = []
                if isinstance(node, ast.Name):
                    bound.append(node.id)
                elif isinstance(node, ast.arg):
                    bound.append(node.arg)
                elif isinstance(node, ast.Attribute):
                    bound.append(node.attr)
                elif isinstance(node, (ast.FunctionDef, ast.ClassDef)):
                    bound.append(node.name)
                for word in bound:
                    self.assertRegex(word, r"^([A-Za-z][A-Za-z0-9_]*|__[a-z]+__)$", name)

    def test_builtins_that_are_listed_and_none_given_another_meaning(self):
        for name, tree in trees().items():
            if name == "__main__":
                continue
            for node in ast.walk(tree):
                if isinstance(node, ast.Name) and hasattr(builtins, node.id):
                    self.assertIn(node.id, BUILTINS, (name, node.lineno))
                    self.assertIsInstance(node.ctx, ast.Load, (name, node.lineno))
                if isinstance(node, ast.arg):
                    self.assertFalse(hasattr(builtins, node.arg), (name, node.lineno))

    def test_no_local_name_hides_an_import_or_a_class(self):
        for name, tree in trees().items():
            outer = {alias.asname or alias.name for node in imports_of(tree) for alias in node.names}
            outer |= {node.name for node in tree.body if isinstance(node, ast.ClassDef)}
            for node in ast.walk(tree):
                if isinstance(node, ast.arg):
                    self.assertNotIn(node.arg, outer, (name, node.lineno))
                if isinstance(node, ast.Name) and isinstance(node.ctx, ast.Store):
                    self.assertNotIn(node.id, outer, (name, node.lineno))

    def test_lists_instead_of_generators_where_a_class_compares(self):
        for name, tree in trees().items():
            for node in ast.walk(tree):
                if isinstance(node, ast.Call) and isinstance(node.func, ast.Name) and node.func.id in TAKE_A_LIST:
                    for part in node.args:
                        self.assertNotIsInstance(part, ast.GeneratorExp, (name, node.lineno))

    def test_no_name_is_a_method_here_and_an_attribute_there(self):
        methods, fields = set(), set()
        for tree in trees().values():
            for node in ast.walk(tree):
                if isinstance(node, ast.ClassDef):
                    plain = [part for part in node.body if isinstance(part, ast.FunctionDef) and not part.decorator_list]
                    methods |= {part.name for part in plain}
                if isinstance(node, ast.Attribute) and isinstance(node.ctx, ast.Store):
                    fields.add(node.attr)
        self.assertEqual(set(), methods & fields)
