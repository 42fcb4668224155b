"""The form of the code: sizes, characters, imports, and where the interface is defined."""

import ast
import pathlib
import unittest

PACKAGE = pathlib.Path(__file__).resolve().parent.parent / "gapsalike"

INTERFACE = {
    "errors": {},
    "fragments": {"is_fragment": "thing", "units": "fragment", "tidy": "units", "kind": "mode sign"},
    "showing": {"shown": "fragment"},
    "forms": {
        "shortened": "fragment", "normal_form": "fragment", "stands_for": "form", "is_form": "thing",
        "together": "first second", "are_alike": "first second", "telling": "first second",
        "is_telling": "first second context", "free_places": "fragment",
    },
}


def files():
    return [(path, path.read_text(encoding="utf-8")) for path in sorted(PACKAGE.glob("*.py"))]


class TheFormOfTheCode(unittest.TestCase):
    def test_the_folder_contains_python_files_alone(self):
        found = [path.name for path in PACKAGE.iterdir() if path.name != "__pycache__"]
        self.assertEqual(sorted(found), sorted(path.name for path, _ in files()))
        self.assertIn("__init__.py", found)

    def test_sizes_and_characters(self):
        for path, text in files():
            lines = text.split("\n")
            self.assertLessEqual(len(lines), 399, path.name)
            self.assertLessEqual(max(len(line) for line in lines), 120, path.name)
            self.assertTrue(all(" " <= sign <= "~" or sign == "\n" for sign in text), path.name)

    def test_functions_are_small_and_have_docstrings_or_are_init(self):
        for path, text in files():
            for node in ast.walk(ast.parse(text)):
                if isinstance(node, ast.FunctionDef):
                    self.assertLessEqual(node.end_lineno - node.lineno + 1, 40, (path.name, node.name))
                    self.assertTrue(ast.get_docstring(node) or node.name == "__init__", (path.name, node.name))

    def test_imports_name_the_file_that_defines(self):
        defined = {path.stem: [node.name for node in ast.parse(text).body if isinstance(
            node, (ast.FunctionDef, ast.ClassDef))] for path, text in files()}
        for path, text in files():
            for node in ast.walk(ast.parse(text)):
                self.assertNotIsInstance(node, ast.Import, path.name)
                if isinstance(node, ast.ImportFrom):
                    top, _, name = node.module.partition(".")
                    self.assertEqual((top, node.level), ("gapsalike", 0), path.name)
                    for alias in node.names:
                        self.assertIn(alias.name, defined[name], path.name)

    def test_the_interface_is_defined_where_it_is_listed(self):
        for name, functions in INTERFACE.items():
            tree = ast.parse((PACKAGE / (name + ".py")).read_text(encoding="utf-8"))
            found = {node.name: " ".join(argument.arg for argument in node.args.args)
                     for node in tree.body if isinstance(node, ast.FunctionDef)}
            for function, arguments in functions.items():
                self.assertEqual(found.get(function), arguments, (name, function))
        tree = ast.parse((PACKAGE / "errors.py").read_text(encoding="utf-8"))
        self.assertIn("GapsError", [node.name for node in tree.body if isinstance(node, ast.ClassDef)])


if __name__ == "__main__":
    unittest.main()
