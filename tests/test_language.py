"""The package keeps to the small part of Python that it is written in, as far as a walk of its tree shows."""

import ast
import builtins
import re
import unittest
from pathlib import Path

FOLDER = Path(__file__).resolve().parent.parent / "partproof"
OWN_NAMES = """len range enumerate zip min max sum abs sorted reversed int str bool bytes list tuple dict set frozenset
    isinstance ord repr any all divmod Exception ValueError TypeError KeyError IndexError LookupError
    ZeroDivisionError ArithmeticError OverflowError RuntimeError NotImplementedError StopIteration""".split()
METHODS = """append clear copy count endswith extend find get index insert isalnum isalpha isdigit islower isspace
    isupper items join keys ljust lower lstrip partition pop remove replace reverse rfind rjust rpartition rsplit
    rstrip setdefault split splitlines startswith strip update upper values zfill bit_length sort""".split()
WORDS = """type typing typing_extensions enum Enum IntEnum StrEnum Flag IntFlag Generic Protocol ABC ABCMeta namedtuple
    NamedTuple TypedDict TYPE_CHECKING abstractmethod""".split()
NO_NAMES = """register mro elements open input version_info with_traceback add_note attrgetter breakpoint builtins
    compile copyright credits delattr dir eval exec exit gc getattr globals hasattr help id importlib license locals
    methodcaller os quit setattr super type vars sys format format_map""".split()
NO_NODES = (ast.With, ast.Match, ast.Global, ast.Nonlocal, ast.Yield, ast.YieldFrom, ast.AsyncFunctionDef, ast.Await,
            ast.AsyncFor, ast.AsyncWith, ast.NamedExpr, ast.GeneratorExp, ast.Div, ast.MatMult, ast.AnnAssign,
            ast.Import)
# Names of methods of Python's own that values of objects may bear, too.
VALUES = "count index title find get join lower upper split strip copy add".split()
PLAIN_NODES = (ast.Constant, ast.Tuple, ast.List, ast.Dict, ast.UnaryOp, ast.USub, ast.Load, ast.Name)
TOP_NODES = (ast.ImportFrom, ast.FunctionDef, ast.ClassDef, ast.Assign)
TREES = {path.stem: ast.parse(path.read_text(), str(path)) for path in sorted(FOLDER.glob("*.py"))}


def nodes_of(tree, *kinds):
    return [node for node in ast.walk(tree) if isinstance(node, kinds)]


def top_names(tree):
    names = [node.name for node in tree.body if isinstance(node, (ast.FunctionDef, ast.ClassDef))]
    names += [alias.name for node in tree.body if isinstance(node, ast.ImportFrom) for alias in node.names]
    return names + [target.id for node in tree.body if isinstance(node, ast.Assign) for target in node.targets]


def stored_names(tree):
    names = [node.arg for node in nodes_of(tree, ast.arg)]
    names += [node.name for node in nodes_of(tree, ast.FunctionDef, ast.ClassDef)]
    return names + [node.id for node in nodes_of(tree, ast.Name) if not isinstance(node.ctx, ast.Load)]


class TestFiles(unittest.TestCase):
    def test_only_python_files_with_plain_names(self):
        for path in FOLDER.iterdir():
            if path.name != "__pycache__":
                self.assertRegex(path.name, r"^([a-z][a-z0-9_]*|__init__)\.py$")

    def test_signs_rows_and_words(self):
        for path in FOLDER.glob("*.py"):
            text = path.read_text()
            self.assertRegex(text, r"\A[ -~\n]*\Z", path.name)
            rows = text.splitlines()
            self.assertLessEqual(len(rows), 400, path.name)
            self.assertLessEqual(max(map(len, rows)), 120, path.name)
            self.assertEqual(set(WORDS) & set(re.findall(r"\w+", text)), set(), path.name)
            self.assertIsNone(re.search("dataclass|overload|contextmanager", text), path.name)


class TestTrees(unittest.TestCase):
    def test_top_of_a_file(self):
        for name, tree in TREES.items():
            self.assertIsNotNone(ast.get_docstring(tree))
            for node in tree.body[1:]:
                self.assertIsInstance(node, TOP_NODES)
            self.assertEqual(len(top_names(tree)), len(set(top_names(tree))))

    def test_values_of_a_top_are_plain(self):
        for name, tree in TREES.items():
            defs = [node.name for node in tree.body if isinstance(node, ast.FunctionDef)]
            for node in [item.value for item in tree.body if isinstance(item, ast.Assign)]:
                for part in ast.walk(node):
                    self.assertIsInstance(part, PLAIN_NODES, name)
                    self.assertTrue(not isinstance(part, ast.Name) or part.id in defs, name)
                    if part is not node:
                        self.assertNotIsInstance(part, (ast.List, ast.Dict), name)

    def test_imports_from_the_file_that_defines_and_in_no_ring(self):
        drawn = {}
        for name, tree in TREES.items():
            drawn[name] = []
            for node in nodes_of(tree, ast.ImportFrom):
                package, file = node.module.split(".")
                self.assertEqual((package, node.level), ("partproof", 0))
                own = [item.name for item in TREES[file].body if isinstance(item, (ast.FunctionDef, ast.ClassDef))]
                own += [target.id for item in TREES[file].body if isinstance(item, ast.Assign)
                        for target in item.targets]
                for alias in node.names:
                    self.assertIn(alias.name, own)
                    self.assertIsNone(alias.asname)
                drawn[name].append(file)
        while drawn:
            free = [name for name in drawn if not [file for file in drawn[name] if file in drawn]]
            self.assertTrue(free, drawn)
            drawn = {name: files for name, files in drawn.items() if name not in free}

    def test_no_other_nodes(self):
        for name, tree in TREES.items():
            self.assertEqual(nodes_of(tree, *NO_NODES), [])
            for node in nodes_of(tree, ast.For, ast.While):
                self.assertEqual(node.orelse, [])
            for node in nodes_of(tree, ast.FunctionDef, ast.ClassDef):
                self.assertEqual(node.decorator_list, [])
            for node in nodes_of(tree, ast.arguments):
                self.assertEqual((node.posonlyargs, node.vararg, node.kwarg), ([], None, None))
            for node in nodes_of(tree, ast.Constant):
                self.assertNotIsInstance(node.value, (float, complex))
                self.assertNotIn("%", node.value if isinstance(node.value, str) else "")
            for node in nodes_of(tree, ast.Starred):
                self.assertIsInstance(node.ctx, ast.Store)
            for node in nodes_of(tree, ast.BinOp):
                self.assertFalse(isinstance(node.op, ast.Pow) and not isinstance(node.right, ast.Constant))

    def test_defs_are_small(self):
        for name, tree in TREES.items():
            for node in nodes_of(tree, ast.FunctionDef):
                self.assertLessEqual(node.end_lineno - node.lineno + 1, 40, node.name)

    def test_names(self):
        for name, tree in TREES.items():
            taken = {alias.name for node in nodes_of(tree, ast.ImportFrom) for alias in node.names}
            taken |= {node.name for node in nodes_of(tree, ast.ClassDef)}
            for stored in stored_names(tree):
                self.assertNotIn(stored, NO_NAMES)
                self.assertFalse(stored.startswith("_") and stored != "__init__", stored)
            for node in nodes_of(tree, ast.arg):
                self.assertFalse(node.arg in taken or hasattr(builtins, node.arg), node.arg)
            for node in nodes_of(tree, ast.Name):
                if isinstance(node.ctx, ast.Load):
                    self.assertTrue(node.id in OWN_NAMES or not hasattr(builtins, node.id), node.id)
                else:
                    self.assertFalse(node.id in taken or hasattr(builtins, node.id), node.id)

    def test_is_stands_beside_none_and_truths(self):
        for name, tree in TREES.items():
            for node in nodes_of(tree, ast.Compare):
                for sign, right in zip(node.ops, node.comparators):
                    if isinstance(sign, (ast.Is, ast.IsNot)):
                        self.assertIn(getattr(right, "value", 0), (None, True, False))

    def test_sets_are_only_counted_sorted_or_asked(self):
        for name, tree in TREES.items():
            allowed = []
            for node in nodes_of(tree, ast.Call):
                if getattr(node.func, "id", "") in ("len", "sorted"):
                    allowed.extend(node.args)
            for node in nodes_of(tree, ast.Compare):
                allowed.extend([node.left] + node.comparators)
            for node in nodes_of(tree, ast.Set, ast.SetComp):
                self.assertIn(node, allowed)
            for node in nodes_of(tree, ast.Call):
                if getattr(node.func, "id", "") in ("set", "frozenset"):
                    self.assertIn(node, allowed)

    def test_lists_and_dicts_of_a_top_are_only_read(self):
        for name, tree in TREES.items():
            kept = {node.targets[0].id for node in tree.body
                    if isinstance(node, ast.Assign) and isinstance(node.value, (ast.List, ast.Dict))}
            read = [node.value for node in nodes_of(tree, ast.Subscript) if isinstance(node.ctx, ast.Load)]
            read += [right for node in nodes_of(tree, ast.Compare) for right in node.comparators]
            read += [node.iter for node in nodes_of(tree, ast.For, ast.comprehension)]
            read += [node.func.value for node in nodes_of(tree, ast.Call)
                     if getattr(node.func, "attr", "") in ("get", "items", "keys", "values", "index", "count")]
            read += [argument for node in nodes_of(tree, ast.Call) for argument in node.args
                     if getattr(node.func, "id", "") in ("len", "list", "dict", "tuple", "sorted")]
            for node in nodes_of(tree, ast.Name):
                if node.id in kept and isinstance(node.ctx, ast.Load):
                    self.assertIn(node, read, name)

    def test_methods_and_values(self):
        own, given = set(), set()
        for name, tree in TREES.items():
            for node in nodes_of(tree, ast.ClassDef):
                own |= {item.name for item in node.body if isinstance(item, ast.FunctionDef)}
                for item in node.body:
                    self.assertTrue(isinstance(item, ast.FunctionDef) or isinstance(item.value, ast.Constant))
            given |= {node.attr for node in nodes_of(tree, ast.Attribute) if isinstance(node.ctx, ast.Store)}
        self.assertEqual(own & given, set())
        python_own = {method for kind in (str, int, list, dict, set, tuple, bytes) for method in dir(kind)}
        self.assertEqual(own & python_own - set(METHODS + ["add", "discard"]), {"__init__"})
        self.assertEqual(given & (python_own | {"args"}) - set(VALUES), set())
        for name, tree in TREES.items():
            called = [node.func for node in nodes_of(tree, ast.Call)]
            for node in nodes_of(tree, ast.Attribute):
                if node in called:
                    self.assertIn(node.attr, own | set(METHODS))
                else:
                    self.assertIn(node.attr, given)


if __name__ == "__main__":
    unittest.main()
