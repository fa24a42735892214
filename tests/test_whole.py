import ast
import importlib
import inspect
import pathlib
import unittest

from guesshush.attacks import attack_of, judge_attack
from guesshush.fences import judge_fences, place
from guesshush.guess import Machine, view_of
from guesshush.plain import run
from guesshush.programs import with_fences
from guesshush.source import lower, run_tree
from guesshush.tables import is_accepted, judge_table, least_window, search
from tests.helper import IN, OUT, STALE, STEP, Choices, meaning, secrets

PACKAGE = pathlib.Path(__file__).resolve().parent.parent / "guesshush"

# What reads no clock, no random numbers and no files.
LIBRARY = ("heapq", "math", "itertools", "collections", "__future__")
BARRED = ("open", "input", "print", "exec", "eval", "compile", "__import__", "hash", "id", "breakpoint")

INTERFACE = {
    "errors": {"GuessError": None, "NotValid": None},
    "programs": {
        "is_program": ["value"],
        "is_in": ["meaning", "array", "value"],
        "asked": ["meaning", "k"],
        "mixed": ["meaning", "k", "x", "y"],
        "loaded": ["meaning", "k"],
        "loaded_secret": ["secrets", "k"],
        "first_registers": ["program", "secrets"],
        "with_fences": ["program", "places"],
    },
    "plain": {
        "first_state": ["program", "secrets"],
        "after_step": ["program", "meaning", "secrets", "state"],
        "outcome": ["program", "meaning", "state"],
        "run": ["program", "meaning", "secrets", "steps"],
    },
    "guess": {
        "Machine": ["program", "meaning", "secrets", "window"],
        "view_of": ["program", "meaning", "secrets", "window", "directives"],
    },
    "source": {
        "is_tree": ["value"],
        "lower": ["tree", "secret"],
        "run_tree": ["tree", "secret", "meaning", "secrets", "turns"],
    },
    "states": {
        "first_state": ["program"],
        "steps": ["program", "state", "window"],
        "is_leak": ["program", "state", "window"],
        "is_state": ["value"],
    },
    "tables": {
        "search": ["program", "window"],
        "is_accepted": ["program", "window"],
        "judge_table": ["program", "window", "table"],
        "follow": ["program", "window", "path"],
        "least_window": ["program"],
    },
    "attacks": {
        "attack_of": ["program", "window", "path"],
        "judge_attack": ["program", "window", "attack"],
    },
    "fences": {
        "region": ["program", "window", "path"],
        "least_hitting": ["regions"],
        "place": ["program", "window"],
        "judge_fences": ["program", "window", "answer"],
    },
}

CONSTANTS = {
    "programs": {"REGISTERS": 4, "SLOTS": 2, "ARRAYS": 2, "MOST_ROWS": 32},
    "guess": {"MOST_WINDOW": 40},
    "tables": {"MOST_STATES": 600},
}

METHODS = {
    ("guess", "Machine"): {"direct": ["directive"], "state": [], "open_guesses": [], "view": []},
}


class WholeTest(unittest.TestCase):
    """Promise [1], as far as it speaks of the whole program, and the interface's names."""

    def trees(self):
        paths = sorted(PACKAGE.rglob("*.py"))
        self.assertTrue(paths)
        return [(path.name, ast.parse(path.read_text())) for path in paths]

    def test_no_clock_no_random_numbers_no_files(self):
        for name, tree in self.trees():
            for node in ast.walk(tree):
                if isinstance(node, ast.ImportFrom):
                    self.assertIn(node.module.split(".")[0], LIBRARY + ("guesshush",), name)
                self.assertNotIsInstance(node, ast.Import, name)
                if isinstance(node, ast.Name):
                    self.assertNotIn(node.id, BARRED, name)

    def test_names_and_arguments(self):
        for module, names in INTERFACE.items():
            loaded = importlib.import_module("guesshush." + module)
            for name, arguments in names.items():
                found = getattr(loaded, name)
                self.assertEqual(found.__module__, loaded.__name__)
                if arguments is not None:
                    self.assertEqual(list(inspect.signature(found).parameters), arguments)

    def test_each_module_of_the_interface(self):
        found = {path.stem for path in PACKAGE.glob("*.py")}
        self.assertEqual(found, {*INTERFACE, "__init__"})

    def test_constants(self):
        for module, names in CONSTANTS.items():
            loaded = importlib.import_module("guesshush." + module)
            for name, value in names.items():
                self.assertEqual((type(getattr(loaded, name)), getattr(loaded, name)), (int, value))

    def test_methods_stand_in_their_classes(self):
        for (module, name), methods in METHODS.items():
            own = vars(getattr(importlib.import_module("guesshush." + module), name))
            for method, arguments in methods.items():
                self.assertEqual(list(inspect.signature(own[method]).parameters), ["self", *arguments])


class PromiseTest(unittest.TestCase):
    """Promise [1]: what is accepted shows the same for all secrets, and what is refused does not."""

    WINDOWS = (0, 1, 2, 3, 5, 12, 40)
    DIRECTIVES = (STEP,) * 6 + (IN, OUT) * 3 + (STALE,) * 5 + (("look",),) * 2

    def direct_two(self, choices, given, window):
        """Two runs that differ in secrets alone, by the same directives; what they have seen."""
        meant = choices.meaning()
        one, other = (Machine(given, meant, choices.secrets(), window) for _ in range(2))
        for _ in range(40):
            directive = choices.one_of(self.DIRECTIVES)
            self.assertEqual(one.direct(directive), other.direct(directive))
        self.assertEqual(one.view(), other.view())
        return [seen[1] for seen in one.view()]

    def check_refused(self, given, window, path):
        attack = attack_of(given, window, path)
        self.assertIs(judge_attack(given, window, attack), True)
        views = [view_of(given, attack[0], told, window, attack[3]) for told in attack[1:3]]
        self.assertNotEqual(views[0], views[1])

    def test_accepted_programs_show_the_same(self):
        choices = Choices(41)
        seen = []
        for _ in range(1500):
            given, window = choices.risky(5 + choices.number(8)), choices.one_of(self.WINDOWS)
            word, found = search(given, window)
            if word == "leak":
                self.check_refused(given, window, found)
            elif word == "table":
                self.assertIs(judge_table(given, window, found), True)
                for _ in range(4):
                    seen.extend(self.direct_two(choices, given, window))
        for what in (("right", "in"), ("wrong", "in"), ("right", "out"), ("wrong", "out"), ("wrong", "stale")):
            self.assertGreater(seen.count(what), 50)

    def test_accepted_without_a_bound_shows_the_same_with_each(self):
        choices = Choices(42)
        many = 0
        for _ in range(600):
            given = choices.risky(5 + choices.number(8))
            if is_accepted(given, None):
                many += 1
                for window in self.WINDOWS:
                    self.direct_two(choices, given, window)
        self.assertGreater(many, 50)

    def test_refused_from_the_least_window_on(self):
        choices = Choices(43)
        seen = []
        for _ in range(3000):
            given = choices.risky(5 + choices.number(6))
            if not is_accepted(given, 0):
                continue
            least = least_window(given)
            seen.append(least)
            if least not in (None, -1):
                for window in (least - 1, least, least + 1):
                    word, found = search(given, window)
                    self.assertEqual(word == "table", window < least)
                    if word == "leak":
                        self.check_refused(given, window, found)
        for least in (None, 1, 2, 3):
            self.assertGreater(seen.count(least), 3)

    def test_fenced_programs_show_the_same(self):
        choices = Choices(44)
        many = 0
        for _ in range(4000):
            given, window = choices.risky(5 + choices.number(6)), choices.one_of(self.WINDOWS)
            if not is_accepted(given, 0) or is_accepted(given, window) is not False:
                continue
            answer = place(given, window)
            if answer[0] == "fences":
                self.assertIs(judge_fences(given, window, answer), True)
                many += 1
                for path in answer[2]:
                    self.check_refused(given, window, path)
                for _ in range(20):
                    self.direct_two(choices, with_fences(given, list(answer[1])), window)
        self.assertGreater(many, 20)

    def test_trees(self):
        """From a tree to the program with the fewest fences; the fences change nothing of its run."""
        tree = (
            ("do", ("ask", 0)),
            ("if", 0, 0, (("do", ("load", 2, 0, 0)), ("do", ("load", 3, 1, 2))), ()),
            ("loop", 2, 1, (("do", ("mix", 2, 2, 2)), ("if", 2, 0, (("do", ("load", 3, 0, 2)),), ()))))
        given = lower(tree, (1,))
        self.assertIs(is_accepted(given, 0), True)
        self.assertIs(is_accepted(given, None), False)
        answer = place(given, None)
        self.assertEqual(answer[0], "fences")
        self.assertIs(judge_fences(given, None, answer), True)
        fenced = with_fences(given, list(answer[1]))
        self.assertIs(judge_table(fenced, None, answer[3]), True)
        meant = meaning((3, 4, 6), (4, 5, 7), [3], [{(4, 4): 6, (5, 5): 9}], [4, 5, 5])
        told = run_tree(tree, (1,), meant, secrets([8]), 50)
        state, view = run(fenced, meant, secrets([8]), 100)
        self.assertEqual((state["place"], state["registers"], state["counts"]), (None, told[0], told[2]))
        self.assertEqual([seen for _, seen in view if seen is not None], told[3])


if __name__ == "__main__":
    unittest.main()
