"""What can be seen at a glance of the rules for the language of the package."""

import ast
import builtins
import pathlib
import re
import unittest

PACKAGE = pathlib.Path(__file__).resolve().parent.parent / "nextstands"
BARRED = (
    "type", "typing", "enum", "Enum", "Flag", "Generic", "Protocol", "ABC", "namedtuple", "dataclass", "overload")
DOUBLE = ("__init__", "__len__", "__eq__", "__repr__")
# Of the builtins and the methods of builtin values, those that the package uses and the rules allow.
BUILTINS = (
    "LookupError", "RuntimeError", "ValueError", "all", "any", "bool", "enumerate", "int", "isinstance", "len", "list",
    "max", "min", "range", "sorted", "str", "sum", "tuple", "zip")
METHODS = ("append", "index", "isascii", "isdigit", "join", "partition", "split")
SIMPLE = (ast.Constant, ast.Dict, ast.Tuple, ast.List)


class LanguageTest(unittest.TestCase):
    def files(self):
        return [path.read_text(encoding="utf-8") for path in sorted(PACKAGE.glob("*.py"))]

    def test_only_python_files(self):
        names = [path.name for path in PACKAGE.iterdir() if path.name != "__pycache__"]
        self.assertIn("__init__.py", names)
        for name in names:
            self.assertRegex(name, r"\A[a-z0-9_]+\.py\Z")

    def test_lines_and_characters(self):
        for text in self.files():
            self.assertRegex(text, r"\A[ -~\n]*\Z")
            lines = text.splitlines()
            self.assertLess(len(lines), 400)
            self.assertLessEqual(max(len(line) for line in lines), 120)
            self.assertEqual([word for word in BARRED if re.search(rf"\b{word}\b", text)], [])

    def test_imports_and_functions(self):
        for text in self.files():
            for node in ast.walk(ast.parse(text)):
                self.assertNotIsInstance(node, (ast.Import, ast.Global, ast.GeneratorExp, ast.Div))
                if isinstance(node, ast.ImportFrom):
                    self.assertRegex(node.module, r"\Anextstands\.")
                if isinstance(node, ast.FunctionDef):
                    self.assertLessEqual(node.end_lineno - node.lineno + 1, 40)

    def test_names(self):
        for text in self.files():
            tree = ast.parse(text)
            nodes = list(ast.walk(tree))
            imported = [name.name for node in nodes if isinstance(node, ast.ImportFrom) for name in node.names]
            functions = [node.name for node in nodes if isinstance(node, ast.FunctionDef)]
            variables = [
                node.id for node in nodes if isinstance(node, ast.Name) and isinstance(node.ctx, ast.Store)]
            variables += [node.arg for node in nodes if isinstance(node, ast.arg)]
            for name in variables + functions:
                if name not in DOUBLE:
                    self.assertFalse(hasattr(builtins, name) or name.startswith("_"), name)
            self.assertEqual(sorted(set(variables) & set(imported)), [])
            top = [node.name for node in tree.body if isinstance(node, (ast.FunctionDef, ast.ClassDef))]
            self.assertEqual(len(set(top + imported)), len(top + imported))

    def test_imports_name_the_defining_file_and_run_in_no_circle(self):
        before = {}
        defined = {}
        for path in PACKAGE.glob("*.py"):
            tree = ast.parse(path.read_text(encoding="utf-8"))
            defined[path.stem] = [
                node.name for node in tree.body if isinstance(node, (ast.FunctionDef, ast.ClassDef))]
            before[path.stem] = [
                (node.module.rpartition(".")[2], name.name)
                for node in tree.body if isinstance(node, ast.ImportFrom) for name in node.names]
        for names in before.values():
            for module, name in names:
                self.assertIn(name, defined[module])
        left = dict(before)
        while left:
            free = [stem for stem in left if not any(module in left for module, _ in left[stem])]
            self.assertNotEqual(free, [])
            left = {stem: left[stem] for stem in left if stem not in free}

    def test_module_level(self):
        for text in self.files():
            for at, node in enumerate(ast.parse(text).body):
                if at == 0:
                    self.assertIsInstance(node, ast.Expr)
                elif isinstance(node, ast.Assign):
                    self.assertEqual([type(target) for target in node.targets], [ast.Name])
                    self.assertIsInstance(node.value, SIMPLE)
                    inner = [part for part in ast.walk(node.value) if part is not node.value]
                    self.assertEqual([part for part in inner if isinstance(part, (ast.List, ast.Dict, ast.Call))], [])
                else:
                    self.assertIsInstance(node, (ast.ImportFrom, ast.FunctionDef, ast.ClassDef))

    def test_builtins_and_methods(self):
        own = []
        for text in self.files():
            own += [node.name for node in ast.walk(ast.parse(text)) if isinstance(node, ast.FunctionDef)]
        for text in self.files():
            for node in ast.walk(ast.parse(text)):
                if isinstance(node, ast.Name) and hasattr(builtins, node.id):
                    self.assertIn(node.id, BUILTINS)
                if isinstance(node, ast.Call) and isinstance(node.func, ast.Attribute):
                    self.assertIn(node.func.attr, METHODS + tuple(own))
                if isinstance(node, ast.Call):
                    self.assertEqual(node.keywords, [])

    def test_no_name_is_a_method_and_an_attribute(self):
        methods, attributes = [], []
        for text in self.files():
            for node in ast.walk(ast.parse(text)):
                if isinstance(node, ast.ClassDef):
                    methods += [part.name for part in node.body if isinstance(part, ast.FunctionDef)]
                if isinstance(node, ast.Attribute) and isinstance(node.ctx, ast.Store):
                    attributes.append(node.attr)
        self.assertIn("call_all", methods)
        self.assertIn("chair", attributes)
        self.assertEqual(sorted(set(methods) & set(attributes)), [])
        values = (str, int, list, tuple, dict, set, bytes)
        for name in methods + attributes:
            if name not in DOUBLE:
                self.assertEqual([value for value in values if hasattr(value, name)], [], name)

    def test_strings(self):
        for text in self.files():
            self.assertNotIn("\t", text)
            for node in ast.walk(ast.parse(text)):
                if isinstance(node, ast.Constant) and isinstance(node.value, str):
                    self.assertRegex(node.value, r"\A[ -$&-~\n]*\Z")
                self.assertNotIsInstance(node, (ast.Lambda, ast.Pow, ast.AnnAssign, ast.NamedExpr))
                if isinstance(node, ast.Constant):
                    self.assertNotIsInstance(node.value, (float, complex))
