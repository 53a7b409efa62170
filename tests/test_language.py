"""The rules of the language that can be seen in the files of the package alone."""

import ast
import re
import unittest
from pathlib import Path

FOLDER = Path(__file__).resolve().parent.parent / "twoworlds"
BUILTINS = set("""len range enumerate zip min max sum abs sorted reversed int str bool list tuple dict set isinstance
ord repr any all divmod ValueError KeyError NotImplemented""".split())
METHODS = set("""append clear copy count endswith extend find get index insert isalnum isalpha isdigit islower isspace
isupper items join keys ljust lower lstrip partition pop remove replace reverse rfind rjust rpartition rsplit rstrip
setdefault split splitlines startswith strip update upper values zfill bit_length add discard""".split())
SPECIAL = set("""__init__ __eq__ __repr__ __str__ __len__ __add__ __or__""".split())
LIBRARY = {"math": {"gcd", "lcm", "isqrt", "comb", "perm", "factorial"}, "heapq": {"heappush", "heappop", "heapify"},
           "itertools": {"product", "combinations", "permutations"}}
WORDS = r"\b(typing|enum|namedtuple|dataclass|register|elements|input|open|law|mro|type|global|eval|exec|_wall)\b"


def modules():
    for path in sorted(FOLDER.rglob("*.py")):
        yield path, path.read_text("ascii")


class TestFiles(unittest.TestCase):
    def test_the_folder(self):
        self.assertEqual({path.suffix for path in FOLDER.iterdir() if path.name != "__pycache__"}, {".py"})
        for path in FOLDER.iterdir():
            self.assertRegex(path.name, r"^(__init__\.py|__pycache__|[a-z][a-z0-9_]*\.py)$")

    def test_sizes_and_signs(self):
        for path, text in modules():
            lines = text.split("\n")
            with self.subTest(path.name):
                self.assertTrue(text.endswith("\n"))
                self.assertLessEqual(len(lines) - 1, 399)
                self.assertLessEqual(max(map(len, lines)), 120)
                self.assertRegex(text, r"\A[\n -~]*\Z")
                self.assertIsNone(re.search(WORDS, text))

    def test_functions(self):
        for path, text in modules():
            for node in ast.walk(ast.parse(text)):
                with self.subTest(path.name, line=getattr(node, "lineno", 0)):
                    if isinstance(node, ast.FunctionDef):
                        self.assertLessEqual(node.end_lineno - node.lineno + 1, 40)
                        self.assertEqual(node.decorator_list, [])
                        if node.name.startswith("__"):
                            self.assertIn(node.name, SPECIAL)
                    self.assertNotIsInstance(node, (
                        ast.GeneratorExp, ast.Yield, ast.YieldFrom, ast.Global, ast.AsyncFunctionDef, ast.Await,
                        ast.Div, ast.AnnAssign, ast.Match, ast.With, ast.NamedExpr, ast.MatMult, ast.Import))
                    if isinstance(node, ast.Constant):
                        self.assertNotIsInstance(node.value, (float, complex, bytes))
                        if isinstance(node.value, str):
                            self.assertNotIn("%", node.value)

    def test_names(self):
        for path, text in modules():
            tree = ast.parse(text)
            own = {node.name for node in ast.walk(tree) if isinstance(node, (ast.FunctionDef, ast.ClassDef))}
            brought = {name.name for node in ast.walk(tree) if isinstance(node, ast.ImportFrom) for name in node.names}
            stored = {node.id for node in ast.walk(tree) if isinstance(node, ast.Name)
                      and isinstance(node.ctx, ast.Store)}
            passed = {node.arg for node in ast.walk(tree) if isinstance(node, ast.arg)}
            classes = {node.name for node in ast.walk(tree) if isinstance(node, ast.ClassDef)}
            read = {node.id for node in ast.walk(tree) if isinstance(node, ast.Name) and isinstance(node.ctx, ast.Load)}
            with self.subTest(path.name):
                self.assertLessEqual(read, own | brought | stored | passed | BUILTINS)
                self.assertFalse((stored | passed) & (brought | classes), (stored | passed) & (brought | classes))
                self.assertFalse((stored | passed | own) & set(dir(__builtins__) if not isinstance(
                    __builtins__, dict) else __builtins__))
                self.assertLessEqual(brought, read)

    def test_imports(self):
        mine = {path.stem for path, _ in modules()}
        follows = {}
        for path, text in modules():
            follows[path.stem] = []
            for node in ast.walk(ast.parse(text)):
                if isinstance(node, ast.ImportFrom):
                    self.assertEqual(node.level, 0)
                    self.assertTrue(all(name.asname is None for name in node.names))
                    first, _, rest = node.module.partition(".")
                    if first == "twoworlds":
                        self.assertIn(rest, mine)
                        self.look_at_import(rest, [name.name for name in node.names])
                        follows[path.stem].append(rest)
                    else:
                        self.assertLessEqual({name.name for name in node.names}, LIBRARY[node.module])
        while follows:
            free = [name for name in follows if not set(follows[name]) & set(follows)]
            self.assertTrue(free, "modules import from each other")
            for name in free:
                del follows[name]

    def look_at_import(self, stem, names):
        text = (FOLDER / f"{stem}.py").read_text()
        tree = ast.parse(text)
        made = {node.name for node in tree.body if isinstance(node, (ast.FunctionDef, ast.ClassDef))}
        made |= {node.targets[0].id for node in tree.body if isinstance(node, ast.Assign)}
        self.assertLessEqual(set(names), made)

    def test_methods(self):
        own = {node.name for _, text in modules() for node in ast.walk(ast.parse(text))
               if isinstance(node, ast.FunctionDef)}
        for path, text in modules():
            for node in ast.walk(ast.parse(text)):
                if isinstance(node, ast.Call) and isinstance(node.func, ast.Attribute):
                    with self.subTest(path.name, line=node.lineno):
                        self.assertIn(node.func.attr, METHODS | own)
                        if node.func.attr in METHODS:
                            self.assertEqual(node.keywords, [])

    def test_names_that_are_methods_and_attributes(self):
        attributes, methods = set(), set()
        for _, text in modules():
            for node in ast.walk(ast.parse(text)):
                if isinstance(node, ast.ClassDef):
                    methods |= {one.name for one in node.body if isinstance(one, ast.FunctionDef)}
                if isinstance(node, ast.Attribute) and isinstance(node.ctx, ast.Store):
                    attributes.add(node.attr)
        self.assertFalse(attributes & methods)

    def test_sets_stand_in_sorted_alone(self):
        for path, text in modules():
            tree = ast.parse(text)
            good = [id(one) for node in ast.walk(tree) if isinstance(node, ast.Call)
                    and isinstance(node.func, ast.Name) and node.func.id in ("sorted", "len") for one in node.args]
            for node in ast.walk(tree):
                if isinstance(node, (ast.Set, ast.SetComp)):
                    with self.subTest(path.name, line=node.lineno):
                        self.assertIn(id(node), good)

    def test_module_level(self):
        for path, text in modules():
            for node in ast.parse(text).body:
                with self.subTest(path.name, line=node.lineno):
                    self.assertIsInstance(node, (ast.Expr, ast.ImportFrom, ast.FunctionDef, ast.ClassDef, ast.Assign))
                    if isinstance(node, ast.Expr):
                        self.assertIsInstance(node.value, ast.Constant)
                    if isinstance(node, ast.Assign):
                        self.look_at_value(node.value)

    def look_at_value(self, value):
        # A plain value, or a table of such, or of functions, without lists and dicts in it.
        plain = [value]
        if isinstance(value, ast.Dict):
            plain = [*value.keys, *value.values]
        elif isinstance(value, (ast.List, ast.Tuple)):
            plain = value.elts
        for one in plain:
            self.assertIsInstance(one, (ast.Constant, ast.Name))


if __name__ == "__main__":
    unittest.main()
