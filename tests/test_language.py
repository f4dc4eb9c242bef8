"""What can be seen at a glance of the rules for the language of the package."""

import ast
import pathlib
import re
import unittest

PACKAGE = pathlib.Path(__file__).resolve().parent.parent / "nextstands"
BARRED = ("type", "typing", "enum", "Enum", "Flag", "Generic", "Protocol", "ABC", "namedtuple")


class LanguageTest(unittest.TestCase):
    def files(self):
        return [path.read_text(encoding="utf-8") for path in sorted(PACKAGE.glob("*.py"))]

    def test_only_python_files(self):
        names = [path.name for path in PACKAGE.iterdir() if path.name != "__pycache__"]
        self.assertIn("__init__.py", names)
        for name in names:
            self.assertRegex(name, r"\A[a-z0-9_]+\.py\Z")

    def test_lines_and_characters(self):
        for text in self.files():
            self.assertRegex(text, r"\A[ -~\n]*\Z")
            lines = text.splitlines()
            self.assertLess(len(lines), 400)
            self.assertLessEqual(max(len(line) for line in lines), 120)
            self.assertEqual([word for word in BARRED if re.search(rf"\b{word}\b", text)], [])

    def test_imports_and_functions(self):
        for text in self.files():
            for node in ast.walk(ast.parse(text)):
                self.assertNotIsInstance(node, (ast.Import, ast.Global, ast.GeneratorExp, ast.Div))
                if isinstance(node, ast.ImportFrom):
                    self.assertRegex(node.module, r"\Anextstands\.")
                if isinstance(node, ast.FunctionDef):
                    self.assertLessEqual(node.end_lineno - node.lineno + 1, 40)
