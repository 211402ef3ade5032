"""The interface as written, and the rules of the language that are simple to check."""

import ast
import builtins
import importlib
import inspect
import pathlib
import unittest
import warnings

LIBRARY = ("heapq", "math", "itertools", "collections")
PACKAGE = pathlib.Path(__file__).resolve().parent.parent / "tollround"
INTERFACE = {
    "errors": {
        "NoPerson": ["person"], "NoSeat": ["seat"], "NoNumber": ["number"], "NoDeed": ["many"],
        "OtherPeople": ["many"], "BadDeed": ["at"], "BadText": ["text"], "BadLine": ["at"],
        "Empty": ["person"], "Barred": ["reason"], "Stops": ["many"], "Few": [],
        "TooMany": ["many"], "Full": ["many"],
    },
    "states": {
        "is_state": ["value"], "sitting": ["state"], "state_of": ["sitting", "purses"],
        "total": ["state"], "residues": ["state"],
    },
    "moves": {
        "exchanges": ["state"], "exchanged": ["state", "seat"], "run": ["state", "row"],
        "states_along": ["state", "row"],
    },
    "leading": {
        "leads": ["one", "other"], "bar": ["one", "other"], "shifts": ["one", "other"],
        "crossings": ["one", "other"], "distance": ["one", "other"], "nearer": ["one", "other"],
        "plan": ["one", "other"], "is_way": ["one", "other", "value"],
    },
    "counting": {
        "lot_many": ["state"], "many_with": ["residues", "total"], "state_at": ["state", "number"],
        "state_number": ["state", "other"], "states_many": ["size", "total"],
        "lots_many": ["size", "total"],
    },
    "chances": {
        "seat_chances": ["state", "person"], "mean_purse": ["state", "person"],
        "range_of": ["state", "person"],
    },
    "wishes": {
        "meets": ["state", "wish"], "wish_many": ["state", "wish"],
        "wish_at": ["state", "wish", "number"], "nearest": ["state", "wish"],
    },
    "passes": {
        "passes_many": ["state", "row"], "after_passes": ["state", "row", "many"],
        "stopper": ["state", "row"],
    },
    "small": {
        "all_states": ["state"], "spheres": ["state"], "farthest": ["state"], "width": ["state"],
        "ways_many": ["one", "other"],
    },
    "party": {"Party": ["state"]},
    "texts": {
        "state_text": ["state"], "row_text": ["row"], "wish_text": ["wish"], "state_in": ["text"],
        "row_in": ["text"], "wish_in": ["text"],
    },
    "desk": {"answers": ["text"]},
}
METHODS = {
    "exchange": ["seat"], "run": ["row"], "again": ["row", "many"], "go": ["goal"],
    "give": ["person", "coins"], "take": ["person", "coins"], "come": ["coins"],
    "leave": ["person"], "undo": [], "do": ["deeds", "whole"], "state": [], "lot": [],
    "exchanges": [], "deeds": [], "as_of": ["many"], "twin": [], "log": [],
}


def sources():
    """The text of each file of the package by the name of the file."""
    return {path.stem: path.read_text("utf-8") for path in sorted(PACKAGE.glob("*.py"))}


def trees():
    """The syntax tree of each file of the package by the name of the file."""
    return {name: ast.parse(text) for name, text in sources().items()}


def nodes(kind):
    """Pairs of file name and node, for the nodes of this kind in all files."""
    return [(name, node) for name, tree in trees().items()
            for node in ast.walk(tree) if isinstance(node, kind)]


def defined(tree):
    """The names of the functions and classes that a file defines at module level."""
    kinds = (ast.FunctionDef, ast.ClassDef)
    return {node.name for node in tree.body if isinstance(node, kinds)}


def constants(tree):
    """The names to which a file assigns a value at module level."""
    return {target.id for node in tree.body if isinstance(node, ast.Assign)
            for target in node.targets}


def own_imports():
    """Triples of file name, name of the imported file, and imported name."""
    found = []
    for name, node in nodes(ast.ImportFrom):
        if node.module not in LIBRARY:
            package, _, module = node.module.partition(".")
            assert (node.level, package) == (0, "tollround"), (name, node.module)
            found.extend((name, module, part.name) for part in node.names)
    return found


class InterfaceTest(unittest.TestCase):
    def test_each_name_is_defined_in_its_file(self):
        for name, listed in INTERFACE.items():
            self.assertLessEqual(set(listed), defined(trees()[name]), name)

    def test_the_parameters_have_the_names_of_the_document(self):
        for name, listed in INTERFACE.items():
            module = importlib.import_module("tollround." + name)
            for word, wanted in listed.items():
                found = inspect.signature(getattr(module, word)).parameters.values()
                self.assertEqual([part.name for part in found], wanted, word)
                for part in found:
                    self.assertIs(part.kind, part.POSITIONAL_OR_KEYWORD, word)
                    self.assertIs(part.default, part.empty, word)


    def test_the_methods_of_a_party_stand_in_the_class_itself(self):
        module = importlib.import_module("tollround.party")
        found = vars(module.Party)
        for word in ("__init__", "__eq__", "__len__", "__repr__"):
            self.assertIn(word, found)
        for word, wanted in METHODS.items():
            parts = list(inspect.signature(found[word]).parameters.values())[1:]
            self.assertEqual([part.name for part in parts], wanted, word)
            for part in parts:
                whole = part.name == "whole"
                self.assertIs(part.kind, part.KEYWORD_ONLY if whole else part.POSITIONAL_OR_KEYWORD)
                self.assertIs(part.default, True if whole else part.empty)


class FormTest(unittest.TestCase):
    def test_the_folder_holds_only_python_files(self):
        found = [path.name for path in PACKAGE.iterdir() if path.name != "__pycache__"]
        self.assertIn("__init__.py", found)
        for name in found:
            self.assertRegex(name, r"^[a-z_][a-z0-9_]*\.py$")

    def test_characters_and_sizes(self):
        for name, text in sources().items():
            self.assertEqual([c for c in text if c != "\n" and not " " <= c <= "~"], [], name)
            self.assertLess(len(text.splitlines()), 400, name)
            self.assertLessEqual(max(map(len, text.splitlines())), 120, name)

    def test_python_gives_no_warning(self):
        with warnings.catch_warnings():
            warnings.simplefilter("error")
            for name, text in sources().items():
                compile(text, name, "exec")

    def test_functions_are_short(self):
        for name, node in nodes(ast.FunctionDef):
            self.assertLessEqual(node.end_lineno - node.lineno + 1, 40, (name, node.name))

    def test_imports_name_the_file_that_defines_the_name(self):
        self.assertEqual(nodes(ast.Import), [])
        for name, module, word in own_imports():
            tree = trees()[module]
            self.assertIn(word, defined(tree) | constants(tree), (name, module))
        for name, node in nodes(ast.alias):
            self.assertIsNone(node.asname, name)

    def test_no_two_files_import_from_each_other(self):
        left = {name: set() for name in trees()}
        for name, module, _ in own_imports():
            left[name].add(module)
        while left:
            free = [name for name, needed in left.items() if not needed & set(left)]
            self.assertTrue(free, left)
            left = {name: needed for name, needed in left.items() if name not in free}

    def test_no_name_of_a_builtin_or_an_import_has_another_meaning(self):
        for name, tree in trees().items():
            taken = set(dir(builtins)) | {
                part.name for node in ast.walk(tree) if isinstance(node, ast.ImportFrom)
                for part in node.names}
            given = {node.arg for node in ast.walk(tree) if isinstance(node, ast.arg)}
            given |= {node.id for node in ast.walk(tree)
                      if isinstance(node, ast.Name) and not isinstance(node.ctx, ast.Load)}
            self.assertEqual((given | defined(tree)) & taken, set(), name)

    def test_no_floats_and_no_percent_sign_in_strings(self):
        for name, node in nodes(ast.Constant):
            self.assertNotIsInstance(node.value, (float, complex), name)
            if isinstance(node.value, str):
                self.assertNotIn("%", node.value, name)
        self.assertEqual(nodes(ast.Div), [])

    def test_no_statement_outside_the_language(self):
        barred = (ast.Global, ast.AsyncFunctionDef, ast.AsyncFor, ast.AsyncWith)
        self.assertEqual(nodes(barred), [])

    def test_names_of_the_library_are_only_called_in_functions(self):
        for name, tree in trees().items():
            words = {part.name for node in tree.body if isinstance(node, ast.ImportFrom)
                     for part in node.names if node.module in LIBRARY}
            calls = [node for part in tree.body
                     if isinstance(part, (ast.FunctionDef, ast.ClassDef))
                     for node in ast.walk(part) if isinstance(node, ast.Call)]
            called = [node.func for node in calls
                      if isinstance(node.func, ast.Name) and node.func.id in words]
            for node in ast.walk(tree):
                if isinstance(node, ast.Name) and node.id in words:
                    self.assertIn(node, called, (name, node.id))

    def test_exponents_are_plain(self):
        for name, node in nodes(ast.BinOp):
            if isinstance(node.op, ast.Pow):
                self.assertIsInstance(node.right, ast.Constant, name)
                self.assertIn(node.right.value, range(65), name)

    def test_numbers_and_strings_are_not_compared_by_is(self):
        for name, node in nodes(ast.Compare):
            for sign, right in zip(node.ops, node.comparators):
                if isinstance(sign, (ast.Is, ast.IsNot)):
                    self.assertIsInstance(right, ast.Constant, name)
                    self.assertIn(repr(right.value), ("None", "True", "False"), name)


if __name__ == "__main__":
    unittest.main()
