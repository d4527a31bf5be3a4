"""Holds the files of the package against those rules of LANGUAGE.md that can be told by their form."""

import ast
import builtins
import unittest
from pathlib import Path

FOLDER = Path(__file__).resolve().parent.parent / "lacekeys"
FILES = sorted(path for path in FOLDER.rglob("*") if path.is_file() and "__pycache__" not in path.parts)
BUILTINS = {
    "len", "range", "enumerate", "zip", "min", "max", "sum", "abs", "sorted", "reversed", "int", "str", "bool", "list",
    "tuple", "dict", "set", "isinstance", "ord", "repr", "any", "all", "divmod", "super", "property", "ValueError",
}
LIBRARY = {
    "heapq": {"heappush", "heappop", "heapify", "heapreplace", "heappushpop"},
    "math": {"gcd", "lcm", "isqrt", "comb", "perm", "factorial"},
    "itertools": {
        "product", "combinations", "permutations", "chain", "accumulate", "pairwise", "islice", "zip_longest",
    },
    "collections": {"defaultdict", "deque"},
}
DOUBLE = {"__init__", "__eq__", "__repr__", "__str__", "__len__", "__enter__", "__exit__", "__call__", "__iter__"}
BARRED = (ast.AsyncFunctionDef, ast.AsyncFor, ast.AsyncWith, ast.Await, ast.Import, ast.Div)
# Layout has an __eq__, so these take a list.
WANT_A_LIST = {"any", "all", "min", "max", "sum", "sorted"}


def names_bound_at_top(tree):
    """Return the names that a file binds at module level, imports included."""
    found = []
    for node in tree.body:
        if isinstance(node, ast.ImportFrom):
            found += [alias.asname or alias.name for alias in node.names]
        elif isinstance(node, (ast.FunctionDef, ast.ClassDef)):
            found.append(node.name)
        elif isinstance(node, ast.Assign):
            found += [target.id for target in node.targets]
    return found


class LanguageTest(unittest.TestCase):
    def setUp(self):
        self.texts = {path: path.read_bytes().decode("ascii") for path in FILES}
        self.trees = {path: ast.parse(text) for path, text in self.texts.items()}

    def nodes(self, *kinds):
        for path, tree in self.trees.items():
            for node in ast.walk(tree):
                if isinstance(node, kinds):
                    yield f"{path.name}:{getattr(node, 'lineno', 0)}", node

    def test_files(self):
        self.assertIn(FOLDER / "__init__.py", FILES)
        for path in FILES:
            self.assertRegex(path.name, r"^[a-z0-9_]+\.py$")

    def test_characters_and_sizes(self):
        for path, text in self.texts.items():
            lines = text.split("\n")
            self.assertLessEqual(len(lines), 400, path)
            for line in lines:
                self.assertLessEqual(len(line), 120, path)
                self.assertTrue(all(" " <= sign <= "~" for sign in line), path)
        for place, node in self.nodes(ast.FunctionDef):
            self.assertLessEqual(node.end_lineno - node.lineno + 1, 40, place)

    def test_imports(self):
        for place, node in self.nodes(ast.ImportFrom):
            names = {alias.name for alias in node.names}
            self.assertEqual(node.level, 0, place)
            self.assertTrue(all(alias.asname is None for alias in node.names), place)
            if node.module in LIBRARY:
                self.assertLessEqual(names, LIBRARY[node.module], place)
            else:
                package, _, module = node.module.partition(".")
                self.assertEqual(package, "lacekeys", place)
                tree = self.trees[FOLDER / f"{module}.py"]
                own = [item for item in tree.body if not isinstance(item, ast.ImportFrom)]
                self.assertLessEqual(names, set(names_bound_at_top(ast.Module(own, []))), place)

    def test_imports_are_used(self):
        for path, tree in self.trees.items():
            used = {node.id for node in ast.walk(tree) if isinstance(node, ast.Name)}
            for node in tree.body:
                if isinstance(node, ast.ImportFrom):
                    self.assertLessEqual({alias.name for alias in node.names}, used, path)

    def test_names_are_bound_once(self):
        for path, tree in self.trees.items():
            names = names_bound_at_top(tree)
            self.assertEqual(len(names), len(set(names)), path)
            words = [node for node in ast.walk(tree) if isinstance(node, ast.Name)]
            bound = {node.id for node in words if isinstance(node.ctx, ast.Store)}
            bound |= {node.arg for node in ast.walk(tree) if isinstance(node, ast.arg)}
            imported = {alias.name for node in tree.body if isinstance(node, ast.ImportFrom) for alias in node.names}
            classes = {node.name for node in tree.body if isinstance(node, ast.ClassDef)}
            self.assertEqual(bound & (imported | classes), set(), path)
            self.assertEqual((bound | set(names)) & set(dir(builtins)), set(), path)

    def test_module_level(self):
        for path, tree in self.trees.items():
            for node in tree.body:
                is_docstring = isinstance(node, ast.Expr) and isinstance(node.value, ast.Constant)
                kinds = (ast.ImportFrom, ast.FunctionDef, ast.ClassDef, ast.Assign)
                self.assertTrue(is_docstring or isinstance(node, kinds), f"{path.name}:{node.lineno}")

    def test_builtins(self):
        for path, tree in self.trees.items():
            for node in ast.walk(tree):
                if isinstance(node, ast.Name) and node.id in dir(builtins):
                    self.assertIn(node.id, BUILTINS, f"{path.name}:{node.lineno}")

    def test_barred_forms(self):
        for place, node in self.nodes(*BARRED):
            self.fail(f"{place}: {node}")

    def test_no_generator_expression_where_a_list_is_wanted(self):
        for place, node in self.nodes(ast.Call):
            if isinstance(node.func, ast.Name) and node.func.id in WANT_A_LIST:
                self.assertFalse(any(isinstance(part, ast.GeneratorExp) for part in node.args), place)

    def test_values(self):
        for place, node in self.nodes(ast.Constant):
            self.assertNotIsInstance(node.value, (float, complex), place)
        for place, node in self.nodes(ast.BinOp):
            if isinstance(node.op, ast.Pow):
                self.assertIsInstance(node.right, ast.Constant, place)

    def test_double_underscores(self):
        for place, node in self.nodes(ast.FunctionDef):
            if node.name.startswith("__"):
                self.assertIn(node.name, DOUBLE, place)


if __name__ == "__main__":
    unittest.main()
