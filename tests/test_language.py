"""What can be read off the sources: the files of the package, their sizes, signs and imports."""

import ast
import builtins
import pathlib
import unittest

PACKAGE = pathlib.Path(__file__).resolve().parent.parent / "wraptime"
ALLOWED = {"math": {"gcd", "lcm", "isqrt", "comb", "perm", "factorial"}}


def sources():
    """The files of the package, each with its text."""
    return [(path.name, path.read_text(encoding="utf-8")) for path in sorted(PACKAGE.glob("*.py"))]


class Sources(unittest.TestCase):
    def test_the_package_holds_only_sources(self):
        for path in PACKAGE.rglob("*"):
            if "__pycache__" not in path.parts:
                self.assertEqual(path.suffix, ".py", path)
        self.assertIn("__init__.py", [name for name, _ in sources()])

    def test_signs_and_sizes(self):
        for name, text in sources():
            self.assertTrue(all(" " <= sign <= "~" or sign == "\n" for sign in text), name)
            lines = text.splitlines()
            self.assertLess(len(lines), 400, name)
            self.assertLessEqual(max(len(line) for line in lines), 120, name)

    def test_functions_are_short(self):
        for name, text in sources():
            for node in ast.walk(ast.parse(text)):
                if isinstance(node, ast.FunctionDef):
                    self.assertLessEqual(node.end_lineno - node.lineno + 1, 40, (name, node.name))

    def test_imports(self):
        for name, text in sources():
            for node in ast.walk(ast.parse(text)):
                self.assertNotIsInstance(node, ast.Import, name)
                if isinstance(node, ast.ImportFrom) and not node.module.startswith("wraptime."):
                    names = {alias.name for alias in node.names}
                    self.assertLessEqual(names, ALLOWED.get(node.module, set()), name)

    def test_names_mean_one_thing(self):
        for name, text in sources():
            tree = ast.parse(text)
            nodes = list(ast.walk(tree))
            imports = [alias.name for node in nodes if isinstance(node, ast.ImportFrom) for alias in node.names]
            bound = [node.id for node in nodes if isinstance(node, ast.Name) and isinstance(node.ctx, ast.Store)]
            bound += [node.arg for node in nodes if isinstance(node, ast.arg)]
            defined = [node.name for node in tree.body if isinstance(node, (ast.FunctionDef, ast.ClassDef))]
            self.assertEqual(set(bound) & set(imports + defined), set(), name)
            self.assertEqual(set(bound + defined + imports) & set(dir(builtins)), set(), name)
            self.assertEqual(set(defined) & set(imports), set(), name)

    def test_strings_and_floats(self):
        for name, text in sources():
            for node in ast.walk(ast.parse(text)):
                self.assertNotIsInstance(node, ast.Div, name)
                if isinstance(node, ast.Constant):
                    self.assertNotIsInstance(node.value, float, name)
                    if isinstance(node.value, str):
                        self.assertNotIn("%", node.value, name)
