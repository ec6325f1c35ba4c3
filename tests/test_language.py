"""Those rules of the program's language that can be counted off: files, imports, sizes, signs."""

import ast
import pathlib
import unittest

PACKAGE = pathlib.Path(__file__).parent.parent / "gapfill"
LIBRARY = ("__future__", "heapq", "math", "itertools", "collections")
BARRED = (
    ast.AsyncFunctionDef, ast.AsyncFor, ast.AsyncWith, ast.Await, ast.Global, ast.Import, ast.Div,
)
BARRED_NAMES = (
    "_cold", "_tuplegetter", "_outside", "_record", "_written_out", "_member_names", "register", "mro", "elements", "open",
    "input", "law", "version_info", "with_traceback", "add_note", "args", "format",
)
BARRED_BEGINNINGS = (
    "_wall", "_pe_", "_dcw_", "_enum_", "_cm_", "_twin_re_", "_lay_", "_law_", "_stub_", "_sre", "_WallAttr",
)
BUILTINS = (
    "print", "input", "open", "eval", "exec", "compile", "globals", "locals", "vars", "dir", "id", "hash",
    "object", "super", "type", "callable", "filter", "float", "complex", "format", "round", "slice", "chr",
    "memoryview", "bytearray", "frozenset", "delattr", "bin", "oct", "hex", "ascii", "issubclass",
)


def files():
    """(name, text, tree) of each file of the package."""
    for path in sorted(PACKAGE.rglob("*.py")):
        text = path.read_text(encoding="utf-8")
        yield path.name, text, ast.parse(text)


class Language(unittest.TestCase):
    def test_the_folder_holds_python_files_alone(self):
        there = [path for path in PACKAGE.rglob("*") if path.name != "__pycache__" and path.suffix != ".pyc"]
        self.assertTrue((PACKAGE / "__init__.py").is_file())
        for path in there:
            self.assertTrue(path.is_dir() or path.suffix == ".py", path)

    def test_signs_and_lines(self):
        for name, text, _ in files():
            self.assertEqual({sign for sign in text if sign != "\n" and not " " <= sign <= "~"}, set(), name)
            lines = text.splitlines()
            self.assertLess(len(lines), 400, name)
            self.assertLessEqual(max(len(line) for line in lines), 120, name)

    def test_functions_are_short(self):
        for name, _, tree in files():
            for node in ast.walk(tree):
                if isinstance(node, ast.FunctionDef):
                    self.assertLessEqual(node.end_lineno - node.lineno + 1, 40, (name, node.name))

    def test_imports_come_from_the_package(self):
        for name, _, tree in files():
            for node in ast.walk(tree):
                if isinstance(node, ast.ImportFrom):
                    self.assertEqual(node.level, 0, name)
                    inside = node.module.startswith("gapfill.")
                    self.assertTrue(inside or node.module in LIBRARY, (name, node.module))
                    self.assertNotIn("*", [alias.name for alias in node.names], name)

    def test_statements_and_numbers(self):
        for name, _, tree in files():
            for node in ast.walk(tree):
                self.assertNotIsInstance(node, BARRED, name)
                if isinstance(node, ast.Constant):
                    self.assertNotIsInstance(node.value, (float, complex), name)

    def test_is_stands_beside_none_and_truths_alone(self):
        for name, _, tree in files():
            for node in ast.walk(tree):
                if isinstance(node, ast.Compare) and isinstance(node.ops[0], (ast.Is, ast.IsNot)):
                    beside = node.comparators[0]
                    self.assertTrue(isinstance(beside, ast.Constant) and beside.value in (None, True, False), (name, node.lineno))

    def test_lists_instead_of_generator_expressions(self):
        # A class has __eq__, so any, all, sum and their kin take a list.
        for name, _, tree in files():
            for node in ast.walk(tree):
                self.assertNotIsInstance(node, (ast.GeneratorExp, ast.Yield, ast.YieldFrom), name)

    def test_errors_of_python_are_not_caught(self):
        for name, _, tree in files():
            for node in ast.walk(tree):
                if isinstance(node, ast.ExceptHandler):
                    self.assertIsInstance(node.type, ast.Name, name)
                    self.assertTrue(node.type.id.startswith("No"), (name, node.type.id))

    def test_no_two_files_import_from_each_other(self):
        imports = {}
        for name, _, tree in files():
            froms = [node.module for node in ast.walk(tree) if isinstance(node, ast.ImportFrom)]
            imports[name] = [module.partition(".")[2] + ".py" for module in froms if module.startswith("gapfill.")]
        while imports:
            free = [name for name, needed in imports.items() if not [other for other in needed if other in imports]]
            self.assertNotEqual(free, [], imports)
            imports = {name: needed for name, needed in imports.items() if name not in free}

    def test_names_of_builtins_stay_theirs(self):
        for name, _, tree in files():
            asked = [node.func for node in ast.walk(tree) if isinstance(node, ast.Call)]
            for node in ast.walk(tree):
                if isinstance(node, ast.Name) and node.id in BUILTINS:
                    allowed = node.id in ("type", "super") and node in asked
                    self.assertTrue(allowed, (name, node.lineno, node.id))

    def test_barred_names(self):
        for name, _, tree in files():
            for node in ast.walk(tree):
                for field in ("id", "attr", "arg", "name"):
                    word = getattr(node, field, None)
                    if isinstance(word, str):
                        self.assertNotIn(word.rstrip("_0123456789"), BARRED_NAMES, (name, word))
                        self.assertFalse(word.startswith(BARRED_BEGINNINGS), (name, word))


if __name__ == "__main__":
    unittest.main()
