"""The form of the package: where names are defined, sizes, characters, and plain statements."""

import ast
import pathlib
import unittest

PACKAGE = pathlib.Path(__file__).resolve().parent.parent / "chosentrees"
INTERFACE = {
    "errors.py": ("GrammarError", "InvalidGrammar", "InvalidTree", "InvalidText", "InvalidResolution", "InvalidLevels",
                  "InvalidFilter", "InvalidWishes", "InvalidOperation", "ParseError", "UnknownName", "NothingToUndo",
                  "TooMany", "InvalidNumber", "Refused"),
    "base/symbols.py": ("END", "SIGNS", "MAX_LETTERS", "MAX_TEXT", "is_terminal", "is_nonterminal", "is_name",
                        "is_terminals", "is_before", "write_terminals", "read_terminals"),
    "base/grammars.py": ("MAX_PRODUCTIONS", "MAX_BODY", "MAX_NONTERMINALS", "MAX_TERMINALS", "Grammar", "renamed"),
}
METHODS = {
    ("base/grammars.py", "Grammar"): (
        "__init__", "from_lines", "productions", "names", "start", "terminals", "nonterminals", "lines", "__getitem__",
        "__contains__", "__len__", "__iter__", "__eq__", "__str__", "of", "firsts", "follows", "least", "__add__",
        "__sub__", "__or__", "is_part_of"),
}
LIBRARY = ("heapq", "math", "itertools", "collections")


def files():
    """The files of the package with their texts."""
    return [(path, path.read_text(encoding="utf-8")) for path in sorted(PACKAGE.rglob("*.py"))]


def defined(tree):
    """The names that a file defines itself."""
    found = []
    for node in tree.body:
        if isinstance(node, (ast.FunctionDef, ast.ClassDef)):
            found.append(node.name)
        elif isinstance(node, ast.Assign):
            found.extend(target.id for target in node.targets)
    return found


class TestInterface(unittest.TestCase):
    def test_names_stand_in_their_files(self):
        for name, words in INTERFACE.items():
            found = defined(ast.parse((PACKAGE / name).read_text(encoding="utf-8")))
            for word in words:
                self.assertIn(word, found, name)

    def test_methods_stand_in_their_classes(self):
        for (name, owner), words in METHODS.items():
            tree = ast.parse((PACKAGE / name).read_text(encoding="utf-8"))
            (found,) = [node for node in tree.body if isinstance(node, ast.ClassDef) and node.name == owner]
            methods = [node.name for node in found.body if isinstance(node, ast.FunctionDef)]
            for word in words:
                self.assertIn(word, methods, owner)


class TestSizes(unittest.TestCase):
    def test_files_and_lines(self):
        for path, text in files():
            lines = text.split("\n")
            self.assertLessEqual(len(lines), 399, path)
            self.assertLessEqual(max(len(line) for line in lines), 120, path)
            self.assertEqual([sign for sign in text if sign != "\n" and not " " <= sign <= "~"], [], path)

    def test_functions(self):
        for path, text in files():
            for node in ast.walk(ast.parse(text)):
                if isinstance(node, ast.FunctionDef):
                    self.assertLessEqual(node.end_lineno - node.lineno, 39, (path, node.name))

    def test_each_folder_is_a_package(self):
        for path, text in files():
            self.assertTrue((path.parent / "__init__.py").is_file(), path)


class TestStatements(unittest.TestCase):
    def test_imports_are_of_the_allowed_form(self):
        for path, text in files():
            for node in ast.walk(ast.parse(text)):
                if isinstance(node, ast.ImportFrom):
                    self.assertEqual(node.level, 0, path)
                    self.assertIn(node.module.split(".")[0], ("chosentrees",) + LIBRARY, path)
                    self.assertNotIn("*", [each.name for each in node.names], path)
                self.assertNotIsInstance(node, ast.Import, path)

    def test_imports_name_the_file_that_defines(self):
        for path, text in files():
            for node in ast.walk(ast.parse(text)):
                if isinstance(node, ast.ImportFrom) and node.module not in LIBRARY:
                    file = PACKAGE.parent / (node.module.replace(".", "/") + ".py")
                    found = defined(ast.parse(file.read_text(encoding="utf-8")))
                    for each in node.names:
                        self.assertIn(each.name, found, path)

    def test_no_statement_is_outside_of_the_subset(self):
        unused = (ast.AsyncFunctionDef, ast.Global, ast.Await, ast.AsyncFor, ast.AsyncWith, ast.Div)
        for path, text in files():
            for node in ast.walk(ast.parse(text)):
                self.assertNotIsInstance(node, unused, path)
                if isinstance(node, ast.Constant):
                    self.assertNotIsInstance(node.value, (float, complex), path)


if __name__ == "__main__":
    unittest.main()
