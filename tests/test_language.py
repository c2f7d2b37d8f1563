"""What of ../shared/LANGUAGE.md can be measured simply: files, characters, sizes, imports, warnings."""

import ast
import pathlib
import unittest
import warnings

PACKAGE = pathlib.Path(__file__).resolve().parent.parent / "setsums"


def package_files():
    return sorted(PACKAGE.rglob("*.py"))


class LanguageTest(unittest.TestCase):
    def test_the_folder_holds_nothing_else(self):
        for path in PACKAGE.rglob("*"):
            if "__pycache__" not in path.parts:
                self.assertEqual(path.suffix, ".py", path)
        self.assertTrue((PACKAGE / "__init__.py").is_file())

    def test_characters_and_lines(self):
        for path in package_files():
            text = path.read_bytes().decode("ascii")
            self.assertTrue(all(sign == "\n" or " " <= sign <= "~" for sign in text), path)
            lines = text.splitlines()
            self.assertLessEqual(len(lines), 399, path)
            self.assertLessEqual(max(len(line) for line in lines), 120, path)

    def test_small_functions(self):
        for path in package_files():
            for node in ast.walk(ast.parse(path.read_text(encoding="ascii"))):
                if isinstance(node, ast.FunctionDef):
                    self.assertLessEqual(node.end_lineno - node.lineno + 1, 40, (path, node.name))

    def test_imports(self):
        outside = ("heapq", "math", "itertools", "collections")
        for path in package_files():
            for node in ast.walk(ast.parse(path.read_text(encoding="ascii"))):
                self.assertNotIsInstance(node, ast.Import, path)
                if isinstance(node, ast.ImportFrom):
                    self.assertEqual(node.level, 0, path)
                    inside = node.module.startswith("setsums.")
                    self.assertTrue(inside or node.module in outside, (path, node.module))

    def test_no_warning_when_compiled(self):
        for path in package_files():
            with warnings.catch_warnings():
                warnings.simplefilter("error")
                compile(path.read_text(encoding="ascii"), str(path), "exec")


if __name__ == "__main__":
    unittest.main()
