"""That the package keeps to the plain subset of Python, as far as its text shows it shortly."""

import ast
import pathlib
import unittest

PACKAGE = pathlib.Path(__file__).resolve().parent.parent / "anydraws"
LIBRARY = {
    "math": {"gcd", "lcm", "isqrt", "comb", "perm", "factorial"},
    "itertools": {"product", "combinations", "permutations", "chain", "accumulate", "pairwise", "islice", "zip_longest"},
    "heapq": {"heappush", "heappop", "heapify", "heapreplace", "heappushpop"},
    "collections": {"defaultdict", "deque"},
}
BARRED = (
    ast.Div, ast.Global, ast.AsyncFunctionDef, ast.Await, ast.Import, ast.Set, ast.SetComp, ast.Try,
)


def sources():
    return sorted(path for path in PACKAGE.rglob("*") if "__pycache__" not in path.parts)


def trees():
    for path in sources():
        text = path.read_text(encoding="utf-8")
        yield path, text, ast.parse(text)


class Form(unittest.TestCase):
    def test_that_the_folder_holds_sources_alone(self):
        for path in sources():
            self.assertEqual(path.suffix, ".py", path)
        self.assertIn(PACKAGE / "__init__.py", sources())

    def test_the_sizes(self):
        for path, text, tree in trees():
            lines = text.splitlines()
            self.assertLess(len(lines), 400, path)
            self.assertTrue(all(len(line) <= 120 for line in lines), path)
            self.assertTrue(all(sign == "\n" or " " <= sign <= "~" for sign in text), path)
            for node in ast.walk(tree):
                if isinstance(node, ast.FunctionDef):
                    self.assertLessEqual(node.end_lineno - node.lineno + 1, 40, node.name)

    def test_the_imports(self):
        for path, _, tree in trees():
            for node in ast.walk(tree):
                if isinstance(node, ast.ImportFrom):
                    self.assertIn(node, tree.body)
                    self.assertEqual(node.level, 0)
                    for name in node.names:
                        self.assertIsNone(name.asname)
                        if node.module.startswith("anydraws."):
                            file = PACKAGE / (node.module.split(".")[1] + ".py")
                            found = [at.name for at in ast.parse(file.read_text()).body if hasattr(at, "name")]
                            self.assertIn(name.name, found, path)
                        else:
                            self.assertIn(name.name, LIBRARY[node.module], path)

    def test_that_imports_are_used(self):
        for path, _, tree in trees():
            used = {node.id for node in ast.walk(tree) if isinstance(node, ast.Name)}
            for node in tree.body:
                if isinstance(node, ast.ImportFrom):
                    for name in node.names:
                        self.assertIn(name.name, used, path)

    def test_that_no_local_name_hides_an_import(self):
        for path, _, tree in trees():
            imported = {name.name for node in tree.body if isinstance(node, ast.ImportFrom) for name in node.names}
            for node in ast.walk(tree):
                if isinstance(node, ast.arg):
                    self.assertNotIn(node.arg, imported, path)
                if isinstance(node, ast.Name) and isinstance(node.ctx, ast.Store):
                    self.assertNotIn(node.id, imported, path)

    def test_that_nothing_else_is_used(self):
        for path, _, tree in trees():
            for node in ast.walk(tree):
                if isinstance(node, ast.Constant):
                    self.assertNotIsInstance(node.value, (float, complex), path)
                if isinstance(node, ast.Try):
                    self.assertTrue(all(isinstance(x, ast.ExceptHandler) and x.type for x in node.handlers), path)
                else:
                    self.assertNotIsInstance(node, BARRED, path)
