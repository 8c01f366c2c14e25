"""The form of the package: where names are defined, sizes, characters, and plain statements."""

import ast
import builtins
import pathlib
import unittest

PACKAGE = pathlib.Path(__file__).resolve().parent.parent / "chosentrees"
INTERFACE = {
    "errors.py": ("GrammarError", "InvalidGrammar", "InvalidTree", "InvalidText", "InvalidResolution", "InvalidLevels",
                  "InvalidFilter", "InvalidWishes", "InvalidOperation", "ParseError", "UnknownName", "NothingToUndo",
                  "TooMany", "InvalidNumber", "Refused"),
    "base/symbols.py": ("END", "SIGNS", "MAX_LETTERS", "MAX_TEXT", "is_terminal", "is_nonterminal", "is_name",
                        "is_terminals", "is_before", "write_terminals", "read_terminals"),
    "base/grammars.py": ("MAX_PRODUCTIONS", "MAX_BODY", "MAX_NONTERMINALS", "MAX_TERMINALS", "Grammar", "renamed"),
    "base/trees.py": ("MAX_NODES", "is_tree", "text_of", "size_of", "paths", "part_at", "count_trees", "all_trees"),
    "table/tables.py": ("KINDS", "MAX_STATES", "Table"),
    "table/levels.py": ("ASSOCIATIVITIES", "is_resolution", "settled", "is_contained", "joined", "common", "Levels"),
    "run/parsers.py": ("Parser",),
    "wish/labels.py": ("label", "labels", "demands", "demanded", "is_built", "missing", "clash", "least_of"),
    "wish/filters.py": ("HOWS", "MAX_BARS", "MAX_TREES", "Filter", "edge", "Wishes"),
    "wish/surveys.py": ("MAX_SPOTS", "filter_survey", "parser_survey", "pair_survey", "is_filter_survey",
                        "is_parser_survey", "is_pair_survey", "chains", "filter_demands"),
    "wish/papers.py": ("wishes_paper", "is_wishes_paper", "clashes", "least_resolution", "tree_demanding"),
    "wish/exact.py": ("within_paper", "is_within_paper", "least_beyond", "missed_paper", "is_missed_paper", "is_exact",
                      "can_be_exact"),
    "wish/ranking.py": ("levels_paper", "is_levels_paper", "can_fit", "free_needed"),
    "compare/compared.py": ("inclusion_paper", "is_inclusion_paper", "least_outside", "comparison_paper",
                            "is_comparison_paper", "least_parting", "are_alike", "kinds_alike"),
    "compare/met.py": ("cells_met", "refusing", "text_to", "endless_text", "lost_texts"),
    "compare/written.py": ("MAX_ROWS", "written_out", "readings", "label_count"),
    "project/project.py": ("MAX_KEPT", "MAX_STEPS", "Project"),
    "text/texts.py": ("write_grammar", "read_grammar", "write_tree", "read_tree", "write_resolution", "read_resolution",
                      "write_filter", "read_filter", "write_levels", "read_levels"),
    "text/shell.py": ("Shell",),
}
METHODS = {
    ("base/grammars.py", "Grammar"): (
        "__init__", "from_lines", "productions", "names", "start", "terminals", "nonterminals", "lines", "__getitem__",
        "__contains__", "__len__", "__iter__", "__eq__", "__str__", "of", "firsts", "follows", "least", "__add__",
        "__sub__", "__or__", "is_part_of"),
    ("table/tables.py", "Table"): (
        "__init__", "grammar", "kind", "cells", "conflicts", "__getitem__", "__contains__", "__len__", "__eq__",
        "__str__", "items", "after", "walk", "lookaheads", "core"),
    ("table/levels.py", "Levels"): (
        "__init__", "groups", "own", "order", "__eq__", "__len__", "__str__", "__bool__", "__getitem__", "__contains__",
        "of_terminal", "of_production", "__add__", "prefers", "__call__"),
    ("run/parsers.py", "Parser"): (
        "__init__", "by", "table", "resolution", "grammar", "__eq__", "__str__", "__call__", "outcome", "tree",
        "__contains__", "steps"),
    ("wish/filters.py", "Filter"): (
        "__init__", "children", "bars", "__contains__", "__iter__", "__len__", "__bool__", "__eq__", "__str__", "__or__",
        "__and__", "__sub__", "is_part_of", "fits", "broken", "allows", "allowed"),
    ("wish/filters.py", "Wishes"): (
        "__init__", "bars", "trees", "__eq__", "__len__", "__str__", "__add__", "fit", "wants"),
    ("project/project.py", "Project"): (
        "__init__", "want", "drop", "allow", "add", "__iadd__", "use", "keep", "release", "grammar", "kind", "wishes",
        "table", "resolution", "parser", "kept", "log", "change", "levels", "undo", "redo", "trial", "during", "twin",
        "__contains__", "__len__", "__iter__", "__eq__", "__str__"),
    ("text/shell.py", "Shell"): ("__init__", "__call__", "do", "results", "project", "log"),
}
LIBRARY = ("heapq", "math", "itertools", "collections")
BUILTINS = ("len range enumerate zip min max sum abs sorted reversed int str bool bytes list tuple dict set frozenset "
            "isinstance ord repr any all divmod pow getattr hasattr setattr iter next map super classmethod property").split(" ")
ALL_BUILTINS = set(dir(builtins))
NOT_NAMED = ("register mro elements open input law version_info with_traceback add_note attrgetter breakpoint builtins "
             "compile copyright credits delattr dir eval exec exit gc globals help id importlib license locals "
             "methodcaller os quit type vars sys").split(" ")
NOT_ATTRIBUTES = ("items keys values pop update append clear extend insert remove reverse setdefault sort args encode "
                  "decode hex fromhex format").split(" ")
SETS = (ast.Set, ast.SetComp)


def files():
    """The files of the package with their texts."""
    return [(path, path.read_text(encoding="utf-8")) for path in sorted(PACKAGE.rglob("*.py"))]


def defined(tree):
    """The names that a file defines itself."""
    found = []
    for node in tree.body:
        if isinstance(node, (ast.FunctionDef, ast.ClassDef)):
            found.append(node.name)
        elif isinstance(node, ast.Assign):
            found.extend(target.id for target in node.targets)
    return found


class TestInterface(unittest.TestCase):
    def test_names_stand_in_their_files(self):
        for name, words in INTERFACE.items():
            found = defined(ast.parse((PACKAGE / name).read_text(encoding="utf-8")))
            for word in words:
                self.assertIn(word, found, name)

    def test_methods_stand_in_their_classes(self):
        for (name, owner), words in METHODS.items():
            tree = ast.parse((PACKAGE / name).read_text(encoding="utf-8"))
            (found,) = [node for node in tree.body if isinstance(node, ast.ClassDef) and node.name == owner]
            methods = [node.name for node in found.body if isinstance(node, ast.FunctionDef)]
            for word in words:
                self.assertIn(word, methods, owner)


class TestSizes(unittest.TestCase):
    def test_files_and_lines(self):
        for path, text in files():
            lines = text.split("\n")
            self.assertLessEqual(len(lines), 399, path)
            self.assertLessEqual(max(len(line) for line in lines), 120, path)
            self.assertEqual([sign for sign in text if sign != "\n" and not " " <= sign <= "~"], [], path)

    def test_functions(self):
        for path, text in files():
            for node in ast.walk(ast.parse(text)):
                if isinstance(node, ast.FunctionDef):
                    self.assertLessEqual(node.end_lineno - node.lineno, 39, (path, node.name))

    def test_each_folder_is_a_package(self):
        for path, text in files():
            self.assertTrue((path.parent / "__init__.py").is_file(), path)


class TestStatements(unittest.TestCase):
    def test_imports_are_of_the_allowed_form(self):
        for path, text in files():
            for node in ast.walk(ast.parse(text)):
                if isinstance(node, ast.ImportFrom):
                    self.assertEqual(node.level, 0, path)
                    self.assertIn(node.module.split(".")[0], ("chosentrees",) + LIBRARY, path)
                    self.assertNotIn("*", [each.name for each in node.names], path)
                self.assertNotIsInstance(node, ast.Import, path)

    def test_imports_name_the_file_that_defines(self):
        for path, text in files():
            for node in ast.walk(ast.parse(text)):
                if isinstance(node, ast.ImportFrom) and node.module not in LIBRARY:
                    file = PACKAGE.parent / (node.module.replace(".", "/") + ".py")
                    found = defined(ast.parse(file.read_text(encoding="utf-8")))
                    for each in node.names:
                        self.assertIn(each.name, found, path)

    def test_no_statement_is_outside_of_the_subset(self):
        unused = (ast.AsyncFunctionDef, ast.Global, ast.Await, ast.AsyncFor, ast.AsyncWith, ast.Div)
        for path, text in files():
            for node in ast.walk(ast.parse(text)):
                self.assertNotIsInstance(node, unused, path)
                if isinstance(node, ast.Constant):
                    self.assertNotIsInstance(node.value, (float, complex), path)


def parents(tree):
    """A dict from each node of a file to the one around it."""
    return {inner: node for node in ast.walk(tree) for inner in ast.iter_child_nodes(node)}


def is_set(node):
    """Whether an expression makes a set."""
    return isinstance(node, SETS) or (isinstance(node, ast.Call) and isinstance(node.func, ast.Name)
                                      and node.func.id == "set")


def is_call_of(node, words):
    """Whether a node calls one of these names."""
    return isinstance(node, ast.Call) and isinstance(node.func, ast.Name) and node.func.id in words


class TestSubset(unittest.TestCase):
    """The rules of the language that are easy to see."""

    def setUp(self):
        self.trees = [(path, ast.parse(text)) for path, text in files()]

    def test_no_generator_expressions_and_no_annotations(self):
        unused = (ast.GeneratorExp, ast.AnnAssign, ast.Match, ast.NamedExpr, ast.Nonlocal)
        for path, tree in self.trees:
            for node in ast.walk(tree):
                self.assertNotIsInstance(node, unused, path)

    def test_sets_stand_where_they_are_allowed(self):
        for path, tree in self.trees:
            around = parents(tree)
            for node in ast.walk(tree):
                if is_set(node):
                    self.assertTrue(is_call_of(around[node], ("sorted", "len")) or isinstance(around[node], ast.Compare),
                                    (path, node.lineno))

    def test_views_are_iterated_at_once(self):
        for path, tree in self.trees:
            around = parents(tree)
            for node in ast.walk(tree):
                if is_call_of(node, ("zip", "enumerate", "reversed")) or (
                        isinstance(node, ast.Call) and isinstance(node.func, ast.Attribute)
                        and node.func.attr in ("items", "keys", "values")):
                    outer = around[node]
                    at_once = isinstance(outer, (ast.For, ast.comprehension)) and outer.iter is node
                    self.assertTrue(at_once or is_call_of(outer, ("list", "tuple", "sorted")), (path, node.lineno))

    def test_names(self):
        for path, tree in self.trees:
            for node in ast.walk(tree):
                if isinstance(node, ast.Name) and isinstance(node.ctx, ast.Load) and node.id in ALL_BUILTINS:
                    self.assertTrue(node.id in BUILTINS or node.id in ("True", "False", "None", "NotImplemented")
                                    or node.id.endswith(("Error", "Exception")), (path, node.id))
                bound = node.id if isinstance(node, ast.Name) and isinstance(node.ctx, ast.Store) else (
                    node.arg if isinstance(node, ast.arg) else None)
                if isinstance(node, (ast.FunctionDef, ast.ClassDef)):
                    self.assertNotIn(node.name, NOT_NAMED, path)
                if bound is not None:
                    self.assertFalse(bound in ALL_BUILTINS or bound in NOT_NAMED, (path, bound))
                if isinstance(node, ast.Attribute) and isinstance(node.ctx, ast.Store):
                    self.assertNotIn(node.attr, NOT_ATTRIBUTES, path)

    def test_no_name_has_two_meanings(self):
        methods, properties, attributes, generators, functions = [], [], [], [], []
        for path, tree in self.trees:
            around = parents(tree)
            for node in ast.walk(tree):
                if isinstance(node, ast.FunctionDef):
                    words = [each.id for each in node.decorator_list if isinstance(each, ast.Name)]
                    if any(isinstance(each, (ast.Yield, ast.YieldFrom)) for each in ast.walk(node)):
                        generators.append(node.name)
                    elif "property" in words:
                        properties.append(node.name)
                    elif isinstance(around[node], ast.ClassDef):
                        methods.append(node.name)
                    else:
                        functions.append(node.name)
                if isinstance(node, ast.Attribute) and isinstance(node.ctx, ast.Store):
                    attributes.append(node.attr)
        self.assertEqual(set(properties) & set(methods + generators + attributes), set())
        self.assertEqual(set(generators) & set(methods + functions + attributes), set())
        self.assertEqual(len(set(generators)), len(generators))
        self.assertEqual(set(methods) & set(attributes), set())
        self.assertNotIn("keys", methods + attributes + properties)

    def test_imported_files_do_not_import_each_other(self):
        arrows = {}
        for path, tree in self.trees:
            name = ".".join(path.relative_to(PACKAGE.parent).with_suffix("").parts)
            arrows[name] = [node.module for node in ast.walk(tree) if isinstance(node, ast.ImportFrom)]
        while arrows:
            ended = [name for name in arrows if not any(each in arrows for each in arrows[name])]
            self.assertTrue(ended, sorted(arrows))
            arrows = {name: arrows[name] for name in arrows if name not in ended}

    def test_strings(self):
        for path, tree in self.trees:
            for node in ast.walk(tree):
                if isinstance(node, ast.Constant) and isinstance(node.value, str):
                    self.assertNotIn(chr(37), node.value, path)


CHANGING = ("append", "clear", "extend", "insert", "pop", "remove", "reverse", "setdefault", "sort", "update", "add",
            "discard")
COPYING = ("list", "tuple", "dict", "sorted", "range", "len")


def plain_name(node):
    """The words of a name, or of an attribute of one, or None."""
    if isinstance(node, ast.Name):
        return node.id
    if isinstance(node, ast.Attribute):
        owner = plain_name(node.value)
        return None if owner is None else f"{owner}.{node.attr}"
    return None


def named_in(node):
    """The names to which an expression can give another name: itself, an item, the sides of a choice."""
    if isinstance(node, ast.IfExp):
        return named_in(node.body) + named_in(node.orelse)
    if isinstance(node, ast.BoolOp):
        return [name for value in node.values for name in named_in(value)]
    name = plain_name(node)
    return [] if name is None else [name]


def walked(node):
    """The names over which a loop with this expression goes."""
    if isinstance(node, ast.Call):
        if isinstance(node.func, ast.Name) and node.func.id in ("enumerate", "zip", "reversed", "iter"):
            return [name for each in node.args for name in walked(each)]
        if isinstance(node.func, ast.Attribute) and node.func.attr in ("items", "keys", "values"):
            return walked(node.func.value)
        return []
    return named_in(node)


def changed_in(nodes):
    """The names that are changed somewhere in these statements: an item of them, or by a method."""
    found = []
    for node in [inner for each in nodes for inner in ast.walk(each)]:
        if isinstance(node, ast.Subscript) and isinstance(node.ctx, (ast.Store, ast.Del)):
            found += named_in(node.value)
        elif isinstance(node, ast.Call) and isinstance(node.func, ast.Attribute) and node.func.attr in CHANGING:
            found += named_in(node.func.value)
        elif is_call_of(node, ("heappush", "heappop", "heapify")):
            found += named_in(node.args[0])
        elif isinstance(node, ast.AugAssign):
            found += named_in(node.target)
    return found


def same_names(function):
    """For each name of a function all names that some assignment in it gives to the same value."""
    pairs = [(target.id, name) for node in ast.walk(function) if isinstance(node, ast.Assign)
             for target in node.targets if isinstance(target, ast.Name) for name in named_in(node.value)]
    groups = []
    for pair in pairs:
        near = [group for group in groups if group & set(pair)]
        groups = [group for group in groups if group not in near] + [set(pair).union(*near)]
    return {name: group for group in groups for name in group}


def changed_loops(function):
    """The lines of the loops of a function in which it changes what they go over, under any of its names."""
    same = same_names(function)
    found = []
    for node in ast.walk(function):
        if isinstance(node, ast.For):
            inner = changed_in(node.body + node.orelse)
            over = {other for name in walked(node.iter) for other in same.get(name, {name})}
            if over & set(inner):
                found.append(node.lineno)
    return found


COMPREHENSIONS = (ast.ListComp, ast.SetComp, ast.DictComp, ast.GeneratorExp)


def names_within(node):
    """The names that stand in an expression."""
    return {each.id for each in ast.walk(node) if isinstance(each, ast.Name)}


def own_names(function):
    """The parameters of a function, and the names that it assigns outside of comprehensions."""
    rows = function.args
    found = {each.arg for each in rows.args + rows.kwonlyargs + [each for each in (rows.vararg, rows.kwarg) if each]}
    waiting = list(function.body)
    while waiting:
        node = waiting.pop()
        if not isinstance(node, COMPREHENSIONS):
            found |= {node.id} if isinstance(node, ast.Name) and isinstance(node.ctx, ast.Store) else set()
            waiting += list(ast.iter_child_nodes(node))
    return found


def inner_names(node, outer=None):
    """The names of comprehensions that stand in other ones, with the names of those."""
    found = []
    for each in ast.iter_child_nodes(node):
        if isinstance(each, COMPREHENSIONS):
            names = set().union(*[names_within(part.target) for part in each.generators])
            found += [(names, outer)] if outer is not None else []
            found += inner_names(each, (outer or set()) | names)
        else:
            found += inner_names(each, outer)
    return found


class TestNames(unittest.TestCase):
    """No name stands for two things near to each other."""

    def test_comprehensions_within_others(self):
        for path, text in files():
            for node in ast.walk(ast.parse(text)):
                if isinstance(node, ast.FunctionDef):
                    for names, outer in inner_names(node):
                        self.assertEqual(names & (own_names(node) | outer), set(), (path, node.name))

    def test_what_a_file_imports_or_defines(self):
        for path, text in files():
            tree = ast.parse(text)
            told = {each.name for node in ast.walk(tree) if isinstance(node, ast.ImportFrom) for each in node.names}
            told |= set(defined(tree))
            for node in ast.walk(tree):
                if isinstance(node, ast.FunctionDef):
                    stored = {each.id for each in ast.walk(node) if isinstance(each, ast.Name) and isinstance(each.ctx, ast.Store)}
                    self.assertEqual((own_names(node) | stored) & told, set(), (path, node.name))


class TestLoops(unittest.TestCase):
    """What a loop goes over is not changed in it."""

    def test_the_package(self):
        for path, text in files():
            for node in ast.walk(ast.parse(text)):
                if isinstance(node, ast.FunctionDef):
                    self.assertEqual(changed_loops(node), [], (path, node.name))

    def test_loops_that_change_what_they_go_over(self):
        for head, body in (("for x in xs", "xs.append(x)"), ("for x in xs", "ys[x] = 1"), ("for x in enumerate(xs)", "del xs[0]"),
                           ("for x, y in xs.items()", "ys.pop(x)"), ("for x in xs if k else zs", "zs[0] = x"),
                           ("for x in zip(zs, xs)", "heappush(ys, x)"), ("for x in self.rows", "self.rows.clear()")):
            text = f"def f(xs, zs, k):\n    ys = {{}}\n    {head}:\n        {body}\n    xs = ys\n"
            self.assertEqual(changed_loops(ast.parse(text).body[0]), [3], text)

    def test_loops_that_do_not(self):
        for head, body in (("for x in list(xs)", "xs.append(x)"), ("for x in xs", "zs[x] = 1"), ("for x in sorted(xs)", "del xs[0]"),
                           ("for x in self.rows", "self.ends.clear()"), ("for x in range(len(xs))", "xs[x] = 1")):
            text = f"def f(xs, zs, k):\n    ys = {{}}\n    {head}:\n        {body}\n    xs = ys\n"
            self.assertEqual(changed_loops(ast.parse(text).body[0]), [], text)


if __name__ == "__main__":
    unittest.main()
