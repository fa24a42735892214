import ast
import importlib
import inspect
import pathlib
import unittest

PACKAGE = pathlib.Path(__file__).resolve().parent.parent / "guesshush"

# What reads no clock, no random numbers and no files.
LIBRARY = ("heapq", "math", "itertools", "collections", "__future__")
BARRED = ("open", "input", "print", "exec", "eval", "compile", "__import__", "hash", "id", "breakpoint")

INTERFACE = {
    "errors": {"GuessError": None, "NotValid": None},
    "programs": {
        "is_program": ["value"],
        "is_in": ["meaning", "array", "value"],
        "asked": ["meaning", "k"],
        "mixed": ["meaning", "k", "x", "y"],
        "loaded": ["meaning", "k"],
        "loaded_secret": ["secrets", "k"],
        "first_registers": ["program", "secrets"],
        "with_fences": ["program", "places"],
    },
    "plain": {
        "first_state": ["program", "secrets"],
        "after_step": ["program", "meaning", "secrets", "state"],
        "outcome": ["program", "meaning", "state"],
        "run": ["program", "meaning", "secrets", "steps"],
    },
    "guess": {
        "Machine": ["program", "meaning", "secrets", "window"],
        "view_of": ["program", "meaning", "secrets", "window", "directives"],
    },
    "source": {
        "is_tree": ["value"],
        "lower": ["tree", "secret"],
        "run_tree": ["tree", "secret", "meaning", "secrets", "turns"],
    },
    "states": {
        "first_state": ["program"],
        "steps": ["program", "state", "window"],
        "is_leak": ["program", "state", "window"],
        "is_state": ["value"],
    },
}

METHODS = {
    ("guess", "Machine"): {"direct": ["directive"], "state": [], "open_guesses": [], "view": []},
}


class WholeTest(unittest.TestCase):
    """Promise [1], as far as it speaks of the whole program, and the interface's names."""

    def trees(self):
        paths = sorted(PACKAGE.rglob("*.py"))
        self.assertTrue(paths)
        return [(path.name, ast.parse(path.read_text())) for path in paths]

    def test_no_clock_no_random_numbers_no_files(self):
        for name, tree in self.trees():
            for node in ast.walk(tree):
                if isinstance(node, ast.ImportFrom):
                    self.assertIn(node.module.split(".")[0], LIBRARY + ("guesshush",), name)
                self.assertNotIsInstance(node, ast.Import, name)
                if isinstance(node, ast.Name):
                    self.assertNotIn(node.id, BARRED, name)

    def test_names_and_arguments(self):
        for module, names in INTERFACE.items():
            loaded = importlib.import_module("guesshush." + module)
            for name, arguments in names.items():
                found = getattr(loaded, name)
                self.assertEqual(found.__module__, loaded.__name__)
                if arguments is not None:
                    self.assertEqual(list(inspect.signature(found).parameters), arguments)

    def test_methods_stand_in_their_classes(self):
        for (module, name), methods in METHODS.items():
            own = vars(getattr(importlib.import_module("guesshush." + module), name))
            for method, arguments in methods.items():
                self.assertEqual(list(inspect.signature(own[method]).parameters), ["self", *arguments])


if __name__ == "__main__":
    unittest.main()
