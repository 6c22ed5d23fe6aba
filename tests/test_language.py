"""Those rules of LANGUAGE.md that a short look at the files can check."""

import ast
import re
import unittest
from pathlib import Path

PACKAGE = Path(__file__).resolve().parent.parent / "whoserves"
FILES = sorted(PACKAGE.glob("*.py"))
BARRED_WORDS = re.compile(
    r"\b(type|typing|typing_extensions|enum|Enum|IntEnum|StrEnum|Flag|IntFlag|Generic|Protocol|ABC|ABCMeta|namedtuple"
    r"|NamedTuple|TypedDict|TYPE_CHECKING|abstractmethod)\b|dataclass|overload|contextmanager"
)
BUILTINS = set(
    "len range enumerate zip min max sum abs sorted reversed int str bool bytes list tuple dict set isinstance ord repr"
    " any all divmod ValueError KeyError IndexError LookupError ZeroDivisionError NotImplemented iter next".split()
)
BUILTIN_NAMES = set(dir(__builtins__) if not isinstance(__builtins__, dict) else __builtins__)
AT_ONCE = ("zip", "enumerate", "reversed", "range")
TAKERS = ("list", "tuple", "dict", "sorted", "sum", "any", "all", "enumerate", "zip", "min", "max")
LIST_TAKERS = ("any", "all", "min", "max", "sum", "sorted")
DOUBLE_UNDERSCORED = set("__init__ __eq__ __repr__ __str__ __len__ __iter__".split())
BARRED_NODES = (
    ast.Global, ast.Import, ast.AsyncFunctionDef, ast.AsyncFor, ast.AsyncWith, ast.Await, ast.Div, ast.MatMult,
)


def nodes(path):
    """All nodes of a file's tree."""
    return list(ast.walk(ast.parse(path.read_text())))


def parameter_names(function):
    """The names of a function's parameters."""
    found = function.args.args + function.args.kwonlyargs
    return [one.arg for one in found]


def bound_names(tree_nodes):
    """The names that functions bind: parameters and what they assign."""
    found = []
    for node in tree_nodes:
        if isinstance(node, (ast.FunctionDef, ast.Lambda)):
            found += parameter_names(node)
        if isinstance(node, ast.Name) and isinstance(node.ctx, ast.Store):
            found.append(node.id)
    return found


class TestLanguage(unittest.TestCase):
    def test_the_folder_has_plain_files_alone(self):
        self.assertIn(PACKAGE / "__init__.py", FILES)
        for path in PACKAGE.iterdir():
            if path.name != "__pycache__":
                self.assertRegex(path.name, r"\A(__init__|__main__|[a-z][a-z0-9]*)\.py\Z")

    def test_signs_and_sizes(self):
        for path in FILES:
            text = path.read_text(encoding="utf-8")
            lines = text.split("\n")
            self.assertRegex(text, r"\A[ -~\n]*\Z", path.name)
            self.assertLessEqual(len(lines), 401, path.name)
            self.assertLessEqual(max(len(line) for line in lines), 120, path.name)
            for node in nodes(path):
                if isinstance(node, ast.FunctionDef):
                    self.assertLessEqual(node.end_lineno - node.lineno + 1, 40, (path.name, node.name))

    def test_barred_words_and_signs(self):
        for path in FILES:
            self.assertIsNone(BARRED_WORDS.search(path.read_text()), path.name)
            for node in nodes(path):
                self.assertNotIsInstance(node, BARRED_NODES, path.name)
                if isinstance(node, ast.Constant):
                    self.assertNotIsInstance(node.value, (float, complex), path.name)
                    if isinstance(node.value, str):
                        self.assertNotIn("%", node.value, path.name)

    def test_imports_are_from_the_package(self):
        for path in FILES:
            for node in nodes(path):
                if isinstance(node, ast.ImportFrom):
                    self.assertEqual(node.level, 0, path.name)
                    self.assertTrue(node.module.startswith("whoserves."), path.name)
                    source = ast.parse((PACKAGE / (node.module.split(".")[1] + ".py")).read_text())
                    defined = [one.name for one in source.body if isinstance(one, (ast.FunctionDef, ast.ClassDef))]
                    defined += bound_names(source.body + [one.targets[0] for one in source.body
                                                          if isinstance(one, ast.Assign)])
                    for name in node.names:
                        self.assertIn(name.name, defined, path.name)
                        self.assertIsNone(name.asname, path.name)

    def test_imports_go_one_way(self):
        after = {path.stem: [node.module.split(".")[1] for node in nodes(path) if isinstance(node, ast.ImportFrom)]
                 for path in FILES}
        while after:
            free = [name for name in after if not [other for other in after[name] if other in after]]
            self.assertTrue(free, after)
            after = {name: after[name] for name in after if name not in free}

    def test_names(self):
        for path in FILES:
            tree_nodes = nodes(path)
            defined = [node.name for node in tree_nodes if isinstance(node, (ast.FunctionDef, ast.ClassDef))]
            classes = [node.name for node in tree_nodes if isinstance(node, ast.ClassDef)]
            imported = [name.name for node in tree_nodes if isinstance(node, ast.ImportFrom) for name in node.names]
            for name in bound_names(tree_nodes):
                self.assertRegex(name, r"\A[A-Za-z][A-Za-z0-9_]*\Z", path.name)
                self.assertNotIn(name, BUILTIN_NAMES, path.name)
                self.assertNotIn(name, classes + imported, path.name)
            for name in defined:
                self.assertTrue(name in DOUBLE_UNDERSCORED or not name.startswith("_"), (path.name, name))

    def test_builtins(self):
        for path in FILES:
            for node in nodes(path):
                if isinstance(node, ast.Name) and node.id in BUILTIN_NAMES:
                    self.assertIn(node.id, BUILTINS, (path.name, node.lineno))

    def test_what_is_iterated_at_once_is_not_kept(self):
        for path in FILES:
            tree_nodes = nodes(path)
            iterated = [node.iter for node in tree_nodes if isinstance(node, (ast.For, ast.comprehension))]
            for node in tree_nodes:
                if isinstance(node, ast.Call) and isinstance(node.func, ast.Name) and node.func.id in TAKERS:
                    iterated += node.args
            for node in tree_nodes:
                if isinstance(node, ast.Call) and isinstance(node.func, ast.Name) and node.func.id in AT_ONCE:
                    self.assertIn(node, iterated, (path.name, node.lineno))

    def test_any_and_the_like_take_lists(self):
        for path in FILES:
            for node in nodes(path):
                if isinstance(node, ast.Call) and isinstance(node.func, ast.Name) and node.func.id in LIST_TAKERS:
                    for given in node.args:
                        self.assertNotIsInstance(given, ast.GeneratorExp, (path.name, node.lineno))

    def test_no_name_is_a_method_and_an_attribute(self):
        methods, stored, read = set(), set(), set()
        for path in FILES:
            tree_nodes = nodes(path)
            for node in tree_nodes:
                if isinstance(node, ast.ClassDef):
                    methods |= {one.name for one in node.body if isinstance(one, ast.FunctionDef)}
            called = [node.func for node in tree_nodes if isinstance(node, ast.Call)]
            for node in tree_nodes:
                if isinstance(node, ast.Attribute):
                    if isinstance(node.ctx, ast.Store):
                        stored.add(node.attr)
                    elif node not in called:
                        read.add(node.attr)
        self.assertEqual(methods & stored, set())
        self.assertLessEqual(read, stored)

    def test_no_list_is_sorted_in_place(self):
        for path in FILES:
            for node in nodes(path):
                if isinstance(node, ast.Attribute):
                    self.assertNotEqual(node.attr, "sort", (path.name, node.lineno))

    def test_a_try_for_pythons_own_errors_has_one_call_alone(self):
        for path in FILES:
            for node in nodes(path):
                if isinstance(node, ast.Try):
                    caught = [one.type.id for one in node.handlers if isinstance(one.type, ast.Name)]
                    self.assertEqual(len(caught), len(node.handlers), (path.name, node.lineno))
                    if set(caught) & {"ValueError", "LookupError", "IndexError"}:
                        names = [one.id for line in node.body for one in ast.walk(line) if isinstance(one, ast.Name)]
                        self.assertLessEqual(set(names) & BUILTIN_NAMES, {"int"}, (path.name, node.lineno))
                        kinds = (ast.Compare, ast.If, ast.While, ast.BoolOp, ast.IfExp, ast.comprehension, ast.Not)
                        for one in [one for line in node.body for one in ast.walk(line)]:
                            self.assertNotIsInstance(one, kinds, (path.name, node.lineno))

    def test_behind_a_star_stands_a_name(self):
        for path in FILES:
            for node in nodes(path):
                if isinstance(node, ast.Starred):
                    self.assertIsInstance(node.value, ast.Name, (path.name, node.lineno))

    def test_is_stands_with_none_true_and_false(self):
        for path in FILES:
            for node in nodes(path):
                if isinstance(node, ast.Compare) and isinstance(node.ops[0], (ast.Is, ast.IsNot)):
                    self.assertIsInstance(node.comparators[0], ast.Constant, (path.name, node.lineno))
                    self.assertIn(repr(node.comparators[0].value), ("None", "True", "False"), path.name)

    def test_raise_makes_its_error_on_the_spot(self):
        for path in FILES:
            for node in nodes(path):
                if isinstance(node, ast.Raise) and node.exc is not None:
                    self.assertIsInstance(node.exc, ast.Call, (path.name, node.lineno))
                    self.assertIsInstance(node.exc.func, ast.Name, (path.name, node.lineno))


if __name__ == "__main__":
    unittest.main()
