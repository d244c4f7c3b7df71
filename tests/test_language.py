"""The rules of the language that can be seen by looking at the files of the package."""

import ast
import builtins
import pathlib
import unittest

FOLDER = pathlib.Path(__file__).resolve().parent.parent / "pointsum"
LIBRARY = {
    "math": {"gcd", "lcm", "isqrt", "comb", "perm", "factorial"},
    "itertools": {"accumulate", "pairwise", "product", "combinations", "permutations"},
}
BUILTINS_LET = set(
    "len range enumerate zip min max sum abs sorted reversed int str bool list tuple dict set isinstance ord repr any"
    " all divmod type iter next map super Exception ValueError TypeError KeyError IndexError LookupError"
    " ZeroDivisionError".split()
)
METHODS_LET = set(
    "append clear copy count endswith extend find get index insert isalnum isalpha isdigit islower isspace isupper"
    " items join keys ljust lower lstrip partition pop remove replace reverse rfind rjust rpartition rsplit rstrip"
    " setdefault split splitlines startswith strip update upper values zfill bit_length add discard sort"
    " __init__ partition".split()
)
WORDS_BARRED = set(
    "register mro elements open input law version_info with_traceback add_note attrgetter breakpoint builtins"
    " compile copyright credits delattr dir eval exec exit gc globals help id importlib license locals methodcaller"
    " os quit super vars sys typing enum dataclass overload".split()
)
NODES_BARRED = (ast.AsyncFunctionDef, ast.AsyncFor, ast.AsyncWith, ast.Await, ast.Div, ast.Import, ast.MatMult)


def files():
    return sorted(FOLDER.glob("*.py"))


def bound_names(node):
    """All names that a tree binds as variables, parameters, functions or classes."""
    for part in ast.walk(node):
        if isinstance(part, ast.Name) and not isinstance(part.ctx, ast.Load):
            yield part.id
        elif isinstance(part, ast.arg):
            yield part.arg
        elif isinstance(part, (ast.FunctionDef, ast.ClassDef)):
            yield part.name


def imported(tree):
    out = []
    for part in tree.body:
        if isinstance(part, ast.ImportFrom):
            out.extend((part.module, alias.name) for alias in part.names)
    return out


class LanguageTest(unittest.TestCase):
    def setUp(self):
        self.trees = {path: ast.parse(path.read_text()) for path in files()}

    def test_folder(self):
        for path in FOLDER.iterdir():
            if path.name != "__pycache__":
                self.assertRegex(path.name, r"^[a-z_][a-z0-9_]*\.py$")
                self.assertNotIn(path.stem, dir(builtins))

    def test_sizes_and_characters(self):
        for path in files():
            text = path.read_text()
            lines = text.split("\n")
            self.assertLessEqual(len(lines), 400, path)
            for line in lines:
                self.assertLessEqual(len(line), 120, (path, line))
                self.assertTrue(all(" " <= c <= "~" for c in line), (path, line))
            for node in ast.walk(self.trees[path]):
                if isinstance(node, ast.FunctionDef):
                    self.assertLessEqual(node.end_lineno - node.lineno + 1, 40, (path, node.name))

    def test_imports(self):
        behind = {}
        for path, tree in self.trees.items():
            behind[path.stem] = []
            for module, name in imported(tree):
                if module in LIBRARY:
                    self.assertIn(name, LIBRARY[module], path)
                    continue
                self.assertTrue(module.startswith("pointsum."), (path, module))
                stem = module.split(".")[1]
                behind[path.stem].append(stem)
                other = self.trees[FOLDER / (stem + ".py")]
                own = [n.name for n in other.body if isinstance(n, (ast.FunctionDef, ast.ClassDef))]
                own += [t.id for n in other.body if isinstance(n, ast.Assign) for t in n.targets]
                self.assertIn(name, own, (path, module))
        done = set()
        while len(done) < len(behind):
            free = [stem for stem in behind if stem not in done and set(behind[stem]) <= done]
            self.assertTrue(free, "files import each other")
            done.update(free)

    def test_imports_are_used_and_not_hidden(self):
        for path, tree in self.trees.items():
            names = [name for _, name in imported(tree)]
            loaded = [n.id for n in ast.walk(tree) if isinstance(n, ast.Name) and isinstance(n.ctx, ast.Load)]
            for name in names:
                self.assertIn(name, loaded, path)
                self.assertNotIn(name, list(bound_names(tree)), path)

    def test_names(self):
        for path, tree in self.trees.items():
            for name in bound_names(tree):
                if not (name.startswith("__") and name.endswith("__")):
                    self.assertNotIn(name, dir(builtins), path)
                    self.assertNotIn(name, WORDS_BARRED, path)
                    self.assertFalse(name.startswith("__"), (path, name))

    def test_module_level(self):
        for path, tree in self.trees.items():
            for at, node in enumerate(tree.body):
                if at == 0:
                    self.assertIsNotNone(ast.get_docstring(tree), path)
                    continue
                self.assertIsInstance(node, (ast.ImportFrom, ast.FunctionDef, ast.ClassDef, ast.Assign), path)
                if isinstance(node, ast.Assign):
                    ast.literal_eval(node.value)
            names = [node.name for node in tree.body if isinstance(node, (ast.FunctionDef, ast.ClassDef))]
            self.assertEqual(len(names), len(set(names)), path)

    def test_nodes(self):
        for path, tree in self.trees.items():
            for node in ast.walk(tree):
                self.assertNotIsInstance(node, NODES_BARRED, path)
                if isinstance(node, ast.Constant):
                    self.assertNotIsInstance(node.value, (float, complex), path)
                if isinstance(node, ast.BinOp) and isinstance(node.op, ast.Pow):
                    self.assertIsInstance(node.right, ast.Constant, path)
                    self.assertTrue(0 <= node.right.value <= 64, path)
                if isinstance(node, (ast.FunctionDef, ast.ClassDef)):
                    self.assertIsNotNone(ast.get_docstring(node) or node.name == "__init__", path)

    def test_calls(self):
        own = set()
        for tree in self.trees.values():
            for node in ast.walk(tree):
                if isinstance(node, ast.ClassDef):
                    own.update(part.name for part in node.body if isinstance(part, ast.FunctionDef))
        for path, tree in self.trees.items():
            for node in ast.walk(tree):
                if not isinstance(node, ast.Call):
                    continue
                if isinstance(node.func, ast.Name):
                    if node.func.id in dir(builtins):
                        self.assertIn(node.func.id, BUILTINS_LET, path)
                        words = {word.arg for word in node.keywords}
                        self.assertTrue(words <= {"key", "reverse", "start", "default", "strict"}, path)
                else:
                    self.assertIsInstance(node.func, ast.Attribute, path)
                    self.assertIn(node.func.attr, METHODS_LET | own, path)

    def test_strings(self):
        for path, tree in self.trees.items():
            docs = [n.value for n in ast.walk(tree) if isinstance(n, ast.Expr)]
            for node in ast.walk(tree):
                if isinstance(node, ast.Constant) and isinstance(node.value, str) and node not in docs:
                    self.assertNotIn("%", node.value, path)
                    self.assertNotIn(node.value, WORDS_BARRED, path)


if __name__ == "__main__":
    unittest.main()
