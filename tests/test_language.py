"""The form of the code: sizes, characters, imports, and where the interface is defined."""

import ast
import pathlib
import unittest

PACKAGE = pathlib.Path(__file__).resolve().parent.parent / "gapsalike"

INTERFACE = {
    "errors": {},
    "fragments": {"is_fragment": "thing", "units": "fragment", "tidy": "units", "kind": "mode sign"},
    "showing": {"shown": "fragment"},
    "forms": {
        "shortened": "fragment", "normal_form": "fragment", "stands_for": "form", "is_form": "thing",
        "together": "first second", "are_alike": "first second", "telling": "first second",
        "is_telling": "first second context", "free_places": "fragment",
    },
    "lines": {"breaking_places": "fragment", "laid_out": "fragment width indent"},
    "pieces": {"undecided": "fragment", "certain": "fragment"},
    "changes": {"change": "one two", "changed": "one told"},
    "documents": {},
}
CLASSES = {
    ("errors", "GapsError"): {"__init__": "self reason"},
    ("pieces", "Stream"): {"__init__": "self", "push": "self fragment", "end": "self", "content": "self"},
    ("documents", "Document"): {
        "__init__": "self fragment", "text": "self", "length": "self", "content": "self",
        "replace": "self start end fragment", "compact": "self start end", "undo": "self", "redo": "self",
        "source": "self start end", "to_shown": "self place", "to_source": "self offset", "find": "self needle",
    },
}


def files():
    return [(path, path.read_text(encoding="utf-8")) for path in sorted(PACKAGE.glob("*.py"))]


def tree_of(name):
    return ast.parse((PACKAGE / (name + ".py")).read_text(encoding="utf-8"))


def names_of(body):
    """The names that a file defines itself: functions, classes, and plain values."""
    names = [node.name for node in body if isinstance(node, (ast.FunctionDef, ast.ClassDef))]
    return names + [target.id for node in body if isinstance(node, ast.Assign) for target in node.targets]


def arguments_of(body):
    """The functions of a file or a class, with the names of their arguments."""
    return {node.name: " ".join(argument.arg for argument in node.args.args)
            for node in body if isinstance(node, ast.FunctionDef)}


class TheFormOfTheCode(unittest.TestCase):
    def test_the_folder_contains_python_files_alone(self):
        found = [path.name for path in PACKAGE.iterdir() if path.name != "__pycache__"]
        self.assertEqual(sorted(found), sorted(path.name for path, _ in files()))
        self.assertIn("__init__.py", found)

    def test_sizes_and_characters(self):
        for path, text in files():
            lines = text.split("\n")
            self.assertLessEqual(len(lines), 399, path.name)
            self.assertLessEqual(max(len(line) for line in lines), 120, path.name)
            self.assertTrue(all(" " <= sign <= "~" or sign == "\n" for sign in text), path.name)

    def test_functions_are_small_and_have_docstrings_or_are_init(self):
        for path, text in files():
            for node in ast.walk(ast.parse(text)):
                if isinstance(node, ast.FunctionDef):
                    self.assertLessEqual(node.end_lineno - node.lineno + 1, 40, (path.name, node.name))
                    self.assertTrue(ast.get_docstring(node) or node.name == "__init__", (path.name, node.name))

    def test_imports_name_the_file_that_defines(self):
        defined = {path.stem: names_of(ast.parse(text).body) for path, text in files()}
        for path, text in files():
            for node in ast.walk(ast.parse(text)):
                self.assertNotIsInstance(node, ast.Import, path.name)
                if isinstance(node, ast.ImportFrom):
                    top, _, name = node.module.partition(".")
                    self.assertEqual((top, node.level), ("gapsalike", 0), path.name)
                    for alias in node.names:
                        self.assertIn(alias.name, defined[name], path.name)
                        self.assertIsNone(alias.asname, path.name)

    def test_the_interface_is_defined_where_it_is_listed(self):
        for name, functions in INTERFACE.items():
            found = arguments_of(tree_of(name).body)
            for function, arguments in functions.items():
                self.assertEqual(found.get(function), arguments, (name, function))

    def test_each_method_is_defined_in_the_class_itself(self):
        for (name, title), expected in CLASSES.items():
            bodies = [node.body for node in tree_of(name).body if isinstance(node, ast.ClassDef) and node.name == title]
            self.assertEqual(len(bodies), 1, title)
            found = arguments_of(bodies[0])
            for method, arguments in expected.items():
                self.assertEqual(found.get(method), arguments, (title, method))

    def test_words_that_are_not_used(self):
        barred = ("register", "mro", "elements", "open", "input", "law", "version_info", "with_traceback", "add_note")
        for path, text in files():
            for node in ast.walk(ast.parse(text)):
                for field in ("id", "name", "arg", "attr"):
                    self.assertNotIn(getattr(node, field, None), barred, path.name)


if __name__ == "__main__":
    unittest.main()
