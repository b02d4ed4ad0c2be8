"""Those rules of LANGUAGE.md that a look at the files of the package can tell."""

import ast
import re
import unittest
import warnings
from pathlib import Path

PACKAGE = Path(__file__).resolve().parent.parent / "nudgewebs"
FILES = sorted(path for path in PACKAGE.rglob("*") if path.is_file() and "__pycache__" not in path.parts)
LIBRARY = {"heapq", "math", "itertools", "collections"}
BARRED_NODES = (
    ast.Global, ast.AsyncFunctionDef, ast.AsyncFor, ast.AsyncWith, ast.Await, ast.TryStar, ast.GeneratorExp, ast.Import,
)
BARRED_NAMES = {
    "register", "mro", "elements", "open", "input", "law", "version_info", "with_traceback", "add_note", "eval", "exec",
    "type", "id", "vars", "dir", "globals", "locals", "super", "hash", "chr", "float", "object", "print", "callable",
    "filter", "iter", "next", "frozenset", "round", "format", "slice", "memoryview", "bytearray", "complex",
}
BARRED_WORDS = re.compile(r"\b(type|typing|enum|Enum|Generic|Protocol|ABC|namedtuple|NamedTuple|TypedDict)\b")


def trees():
    for path in FILES:
        yield path, ast.parse(path.read_text("utf-8"), str(path))


def nodes():
    for path, tree in trees():
        for node in ast.walk(tree):
            yield f"{path.name}:{getattr(node, 'lineno', 0)}", node


def names_in(node):
    """The names that a node reads or gives."""
    if isinstance(node, ast.Name):
        return [node.id]
    if isinstance(node, ast.Attribute):
        return [node.attr]
    if isinstance(node, (ast.FunctionDef, ast.ClassDef)):
        return [node.name]
    return [node.arg] if isinstance(node, (ast.arg, ast.keyword)) else []


class Language(unittest.TestCase):
    def test_there_are_files_and_all_are_plain(self):
        self.assertIn("__init__.py", [path.name for path in FILES])
        for path in FILES:
            self.assertRegex(path.name, r"^[a-z_][a-z0-9_]*\.py$")

    def test_characters_and_lengths(self):
        for path in FILES:
            rows = path.read_text("utf-8").split("\n")
            self.assertLessEqual(len(rows), 400, path)
            for at, row in enumerate(rows):
                self.assertRegex(row, r"^[ -~]{0,120}$", f"{path}:{at + 1}")

    def test_python_has_no_warning(self):
        with warnings.catch_warnings():
            warnings.simplefilter("error")
            for path in FILES:
                compile(path.read_text("utf-8"), str(path), "exec")

    def test_functions_are_short_and_without_decorators(self):
        for place, node in nodes():
            if isinstance(node, ast.FunctionDef):
                self.assertLess(node.end_lineno - node.lineno, 40, place)
                self.assertTrue(all(getattr(one, "id", "") == "property" for one in node.decorator_list), place)

    def test_imports_are_from_files_of_the_package(self):
        for place, node in nodes():
            if isinstance(node, ast.ImportFrom):
                self.assertEqual(node.level, 0, place)
                inside = re.fullmatch(r"nudgewebs\.[a-z]+", node.module)
                self.assertTrue(inside or node.module in LIBRARY, place)
                self.assertTrue(all(one.name != "*" and one.asname is None for one in node.names), place)

    def test_barred_statements_and_values(self):
        for place, node in nodes():
            self.assertNotIsInstance(node, BARRED_NODES, place)
            if isinstance(node, ast.Constant):
                self.assertNotIsInstance(node.value, (float, complex), place)
            self.assertNotIsInstance(getattr(node, "op", None), ast.Div, place)

    def test_barred_names(self):
        for place, node in nodes():
            for name in names_in(node):
                self.assertNotIn(name, BARRED_NAMES, place)
                self.assertTrue(not name.startswith("__") or name in ("__init__", "__eq__", "__len__"), place)

    def test_strings(self):
        for place, node in nodes():
            if isinstance(node, ast.Constant) and isinstance(node.value, str):
                self.assertNotIn("%", node.value, place)
                self.assertTrue(" " in node.value or not BARRED_WORDS.search(node.value), place)

    def test_no_two_files_import_from_each_other(self):
        needed = {}
        for path, tree in trees():
            found = [node.module for node in ast.walk(tree) if isinstance(node, ast.ImportFrom)]
            needed[f"nudgewebs.{path.stem}"] = [name for name in found if name.startswith("nudgewebs.")]
        while needed:
            free = [name for name, others in needed.items() if not any(other in needed for other in others)]
            self.assertTrue(free, needed)
            needed = {name: others for name, others in needed.items() if name not in free}


if __name__ == "__main__":
    unittest.main()
