import copy
import unittest

from guesshush.errors import NotValid
from guesshush.plain import run
from guesshush.programs import MOST_ROWS, is_program
from guesshush.source import is_tree, lower, run_tree
from tests.helper import Choices, meaning, secrets

END = ("end",)
ASK = ("ask", 1)
DO = ("do", ASK)
DONE = (ASK, ("mix", 0, 1, 2), ("load", 3, 1, 0), ("mask", 0, 0, 3), ("put", 1, 3), ("get", 3, 1), ("fence",))
WORDS = ("ask", "mix", "load", "mask", "put", "get", "fence")

# Values that are no parts.
NO_PARTS = (
    None, True, 0, "", "do", "if", (), [], {}, (None,), (0,), ([],), ({},), (("do",),), ASK, ("fence",),
    # A do is of one instruction that neither goes elsewhere nor ends.
    ("do",), ("do", ASK, ASK), ("do", ()), ("do", (ASK,)), ("do", "ask"), ("do", ("ask",)), ("do", ("ask", 4)),
    ("do", ("ask", True)), ("do", ["ask", 1]), ("do", ("test", 0, 0, 0)), ("do", ("jump", 0)), ("do", END),
    ("do", ("load", 0, 2, 0)), ("do", ("put", 2, 0)), ("do", ("mix", 0, 0)), ("do", ("fence", 0)), ("do", None),
    ("do", DO), ["do", ASK], ("Do", ASK), ("done", ASK), (["do"], ASK), (b"do", ASK), (0, ASK), ("end",),
    # An if has a register, an array and two trees.
    ("if",), ("if", 0, 0), ("if", 0, 0, ()), ("if", 0, 0, (), (), ()), ("if", 4, 0, (), ()), ("if", -1, 0, (), ()),
    ("if", 0, 2, (), ()), ("if", 0, -1, (), ()), ("if", True, 0, (), ()), ("if", 0, False, (), ()),
    ("if", "0", 0, (), ()), ("if", 0, None, (), ()), ("if", 0.0, 0, (), ()), ("if", 0, 0, [], ()),
    ("if", 0, 0, (), []), ("if", 0, 0, None, ()), ("if", 0, 0, (), None), ("if", 0, 0, DO, ()), ("if", 0, 0, (), DO),
    ("if", 0, 0, (ASK,), ()), ("if", 0, 0, (), (ASK,)), ["if", 0, 0, (), ()], ("else", 0, 0, (), ()),
    ("if", 0, 0, "", ()), ("if", 0, 0, (), 0),
    # A loop has a register, an array and one tree.
    ("loop",), ("loop", 0, 0), ("loop", 0, 0, (), ()), ("loop", 4, 0, ()), ("loop", 0, 2, ()), ("loop", -1, 0, ()),
    ("loop", 0, -1, ()), ("loop", True, 0, ()), ("loop", 0, True, ()), ("loop", 0, 0, []), ("loop", 0, 0, None),
    ("loop", 0, 0, DO), ("loop", 0, 0, (ASK,)), ["loop", 0, 0, ()], ("while", 0, 0, ()), ("loop", (), 0, ()),
)


def nested(depth, innermost):
    """A tree of so many loops and ifs, one in the other."""
    tree = innermost
    for k in range(depth):
        tree = (("if", 0, 0, (), tree),) if k % 2 else (("loop", 1, 1, tree),)
    return tree


def rows(tree, secret=()):
    return lower(tree, secret)["rows"]


class TreeTest(unittest.TestCase):
    """Point [14]."""

    def test_trees(self):
        trees = [(), (DO,), (DO,) * 100, nested(1, ()), nested(2, ()), nested(9, (DO,))]
        trees += [(("do", row),) for row in DONE]
        trees += [(("if", a, array, (), ()), ("loop", a, array, ())) for a in range(4) for array in range(2)]
        trees += [(("if", 0, 0, (DO, ("loop", 1, 1, (DO,))), (("if", 2, 1, (DO,), ()), DO)), DO)]
        for tree in trees:
            self.assertIs(is_tree(tree), True, tree)

    def test_no_trees(self):
        for value in (None, True, False, 0, 7, "", "do", b"", [], {}, [DO], {"do": 1}, DO, ASK, ("do",), object(),
                      1.5):
            self.assertIs(is_tree(value), False, value)

    def test_no_parts(self):
        for part in NO_PARTS:
            for tree in ((part,), (DO, part), (part, DO), nested(1, (part,)), nested(2, (part,)),
                         (("if", 0, 0, (part,), ()),)):
                self.assertIs(is_tree(tree), False, tree)

    def test_subclasses_are_none(self):
        class Text(str):
            pass

        class Several(tuple):
            pass

        class Number(int):
            pass

        for tree in (Several((DO,)), (Several(DO),), ((Text("do"), ASK),), (("if", Number(0), 0, (), ()),),
                     (("loop", 0, 0, Several()),)):
            self.assertIs(is_tree(tree), False)

    def test_deep_trees(self):
        self.assertIs(is_tree(nested(20000, (DO,))), True)
        self.assertIs(is_tree(nested(20000, (ASK,))), False)
        value = ()
        for _ in range(20000):
            value = (value,)
        self.assertIs(is_tree(value), False)

    def test_nothing_is_changed(self):
        for tree in ([DO], (["do", ASK],), (DO, ("loop", 0, 0, [DO]))):
            kept = copy.deepcopy(tree)
            is_tree(tree)
            self.assertEqual(tree, kept)


class LowerTest(unittest.TestCase):
    """Point [15]."""

    def test_example(self):
        made = rows((("if", 0, 1, (("do", ("ask", 1)),), ()),))
        self.assertEqual(made, (("test", 0, 1, 3), ("ask", 1), ("jump", 3), ("end",)))

    def test_do(self):
        self.assertEqual(rows(()), (END,))
        for row in DONE:
            self.assertEqual(rows((("do", row),)), (row, END))
        self.assertEqual(rows(tuple(("do", row) for row in DONE)), (*DONE, END))

    def test_secret(self):
        for secret in ((), (0,), (1, 3), (0, 1, 2, 3)):
            self.assertEqual(lower((DO,), secret), {"secret": secret, "rows": (ASK, END)})

    def test_if(self):
        one, two, three = DONE[:3]
        made = rows((DO, ("if", 2, 0, (("do", one), ("do", two)), (("do", three),)), DO))
        self.assertEqual(made, (ASK, ("test", 2, 0, 5), one, two, ("jump", 6), three, ASK, END))
        self.assertEqual(rows((("if", 3, 1, (), ()),)), (("test", 3, 1, 2), ("jump", 2), END))
        self.assertEqual(rows((("if", 3, 1, (), (DO,)),)), (("test", 3, 1, 2), ("jump", 3), ASK, END))

    def test_loop(self):
        one, two = DONE[:2]
        made = rows((DO, ("loop", 2, 0, (("do", one), ("do", two))), DO))
        self.assertEqual(made, (ASK, ("test", 2, 0, 5), one, two, ("jump", 1), ASK, END))
        self.assertEqual(rows((("loop", 3, 1, ()),)), (("test", 3, 1, 2), ("jump", 0), END))

    def test_nested(self):
        inner = ("if", 1, 0, (DO,), (("loop", 2, 1, (DO,)),))
        made = rows((("loop", 0, 0, (inner, DO)), ("if", 3, 1, (("loop", 0, 1, ()),), (DO,))))
        self.assertEqual(made, (
            ("test", 0, 0, 9), ("test", 1, 0, 4), ASK, ("jump", 7), ("test", 2, 1, 7), ASK, ("jump", 4), ASK,
            ("jump", 0), ("test", 3, 1, 13), ("test", 0, 1, 12), ("jump", 10), ("jump", 14), ASK, END))

    def test_most_rows(self):
        self.assertEqual(MOST_ROWS, 32)
        loop = ("loop", 0, 0, (DO, DO))
        choice = ("if", 0, 0, (DO,), (DO, DO))
        fitting = ((DO,) * 31, (loop,) * 7 + (DO,) * 3, (choice,) * 6 + (DO,), nested(15, (DO,)),
                   nested(14, (DO,) * 3),
                   (("loop", 0, 0, (DO,) * 29),), (("if", 0, 0, (DO,) * 29, ()),), (("if", 0, 0, (), (DO,) * 29),))
        for tree in fitting:
            made = lower(tree, (1,))
            self.assertEqual(len(made["rows"]), 32)
            self.assertTrue(is_program(made))
            for longer in ((*tree, DO), (DO, *tree), (*tree, ("if", 0, 0, (), ()))):
                with self.assertRaises(NotValid):
                    lower(longer, (1,))

    def test_many_more_rows(self):
        for tree in ((DO,) * 33, (DO,) * 1000, nested(16, ()), nested(17, (DO,)), nested(200, ()),
                     nested(20000, (DO,)),
                     (DO,) * 20 + nested(8, ()), (("if", 0, 0, (DO,) * 15, (DO,) * 15),)):
            with self.assertRaises(NotValid):
                lower(tree, ())

    def test_many_rows_of_shared_trees(self):
        tree = ()
        for _ in range(200):
            tree = (("if", 0, 0, tree, tree),)
        with self.assertRaises(NotValid):
            lower(tree, ())
        for _ in range(200):
            tree = (*tree, ("loop", 0, 0, tree))[-2:]
        with self.assertRaises(NotValid):
            lower(tree, ())

    def test_wrong_secret(self):
        for secret in ((4,), (-1,), (1, 0), (1, 1), (True,), ("0",), (None,), [1], None, 1, "1", {1: True}):
            with self.assertRaises(NotValid):
                lower((DO,), secret)

    def test_wrong_trees(self):
        for value in (None, 0, True, "", [], [DO], DO, ASK, (ASK,), {}, (("loop", 0, 0, [DO]),)):
            with self.assertRaises(NotValid):
                lower(value, ())
        for part in NO_PARTS:
            with self.assertRaises(NotValid):
                lower((DO, part), ())

    def test_kinds_and_nothing_is_changed(self):
        tree = (("if", 0, 1, (DO,), (("loop", 1, 0, (DO,)),)),)
        kept = copy.deepcopy(tree)
        made = lower(tree, (0,))
        self.assertEqual(tree, kept)
        self.assertEqual(sorted(made), ["rows", "secret"])
        self.assertIs(type(made["rows"]), tuple)
        self.assertIs(is_program(made), True)
        self.assertIsNot(lower(tree, (0,)), made)


class RunTest(unittest.TestCase):
    """Point [16]."""

    def test_empty(self):
        given = ((), (1, 3), meaning(), secrets((7, 8)))
        for turns in (0, 1, 50):
            self.assertEqual(run_tree(*given, turns), ((0, 7, 0, 8), (0, 0), (0, 0, 0), []))

    def test_do(self):
        tree = (("do", ("ask", 0)), ("do", ("mix", 1, 0, 3)), ("do", ("load", 2, 0, 1)), ("do", ("load", 3, 1, 1)),
                ("do", ("put", 1, 2)), ("do", ("get", 0, 1)), ("do", ("mask", 1, 1, 2)), ("do", ("fence",)))
        meant = meaning(first=(6,), asked=(5,), mixed=({(5, 77): 6},), loaded=(40, 41))
        told = run_tree(tree, (3,), meant, secrets((77,), (50, 51)), 8)
        self.assertEqual(told, ((40, 0, 40, 51), (0, 40), (1, 1, 2), [("at", 0, 6), ("at", 1, 6)]))

    def test_if(self):
        tree = (("if", 1, 1, (("do", ("ask", 2)),), (("do", ("ask", 3)),)), ("do", ("put", 0, 2)))
        for value, registers, slot, seen in ((7, (0, 7, 5, 0), 5, "in"), (8, (0, 8, 0, 5), 0, "out")):
            told = run_tree(tree, (1,), meaning(first=(8,), second=(7,), asked=(5,)), secrets((value,)), 3)
            self.assertEqual(told, (registers, (slot, 0), (1, 0, 0), [(seen,)]))

    def test_loop(self):
        tree = (("do", ("ask", 0)), ("loop", 0, 1, (("do", ("put", 1, 0)), ("do", ("ask", 0)))), ("do", ("ask", 1)))
        given = (tree, (), meaning(first=(9,), second=(5, 6), asked=(5, 6, 9, 4)), secrets())
        told = ((9, 4, 0, 0), (0, 6), (4, 0, 0), [("in",), ("in",), ("out",)])
        self.assertEqual(run_tree(*given, 9), told)
        self.assertEqual(run_tree(*given, 100), told)
        self.assertIsNone(run_tree(*given, 8))

    def test_loop_that_is_not_made(self):
        tree = (("loop", 0, 0, (DO,)), ("do", ("put", 0, 0)))
        self.assertEqual(run_tree(tree, (0,), meaning(), secrets((7,)), 2),
                         ((7, 0, 0, 0), (7, 0), (0, 0, 0), [("out",)]))

    def test_a_loop_that_does_not_end(self):
        for body in ((), (DO,), (("loop", 0, 0, ()),), (("if", 0, 0, (DO,), ()),)):
            for tree in ((("loop", 0, 0, body),), (DO, ("loop", 0, 0, body), DO)):
                for turns in (0, 1, 2, 3, 10, 1001):
                    self.assertIsNone(run_tree(tree, (), meaning(), secrets(), turns))

    def test_turns(self):
        trees = (((DO,), 1), ((DO, DO), 2), ((("if", 0, 0, (), ()),), 1), ((("if", 0, 0, (DO,), ()),), 2),
                 ((("if", 0, 0, (), (DO,)), DO), 2), ((("loop", 1, 0, (DO,)),), 1), ((("loop", 1, 0, (DO,)), DO), 2),
                 ((("loop", 0, 0, (("do", ("get", 0, 0)),)),), 3), ((("do", ("fence",)),), 1))
        for tree, turns in trees:
            # The register 0 is in the arrays at first, the register 1 is not.
            tree = (("do", ("put", 0, 1)), *tree)
            for more in (0, 1, 30):
                self.assertIsNotNone(run_tree(tree, (1,), meaning(), secrets((8,)), turns + 1 + more), tree)
            for less in range(turns + 1):
                self.assertIsNone(run_tree(tree, (1,), meaning(), secrets((8,)), less), tree)

    def test_deep_trees(self):
        tree = (DO,)
        for k in range(20000):
            tree = (("if", 0, 0, tree, ()),) if k % 2 else (("if", 1, 0, (), tree),)
        told = run_tree(tree, (1,), meaning(asked=(6,)), secrets((9,)), 20001)
        self.assertEqual(told[:3], ((0, 6, 0, 0), (0, 0), (1, 0, 0)))
        self.assertEqual(told[3], [("in",), ("out",)] * 10000)
        self.assertIsNone(run_tree(tree, (1,), meaning(asked=(6,)), secrets((9,)), 20000))

    def test_more_than_a_program_holds(self):
        told = run_tree((DO,) * 500, (), meaning(asked=range(500)), secrets(), 500)
        self.assertEqual(told, ((0, 499, 0, 0), (0, 0), (500, 0, 0), []))

    def test_kinds_and_nothing_is_changed(self):
        tree = (("loop", 0, 0, (("do", ("ask", 0)), ("do", ("load", 1, 0, 0)))), ("do", ("mix", 2, 1, 1)))
        passed = (tree, (3,), meaning(asked=(0, 5), mixed=({(61, 61): 9},), loaded=(60,)), secrets((1,), (50, 61)),
                  20)
        kept = copy.deepcopy(passed)
        told = run_tree(*passed)
        self.assertEqual(passed, kept)
        self.assertEqual(told, (
            (5, 61, 9, 1), (0, 0), (2, 1, 2), [("in",), ("at", 0, 0), ("in",), ("at", 0, 5), ("out",)]))
        self.assertEqual(list(map(type, told)), [tuple, tuple, tuple, list])
        self.assertIsNot(run_tree(*passed)[3], told[3])

    def test_the_lowered_program_does_the_same(self):
        choices = Choices(3)
        ended = 0
        for _ in range(600):
            tree, secret = choices.tree(WORDS, 3), choices.some_of(range(4))
            meant, hidden = choices.meaning(), choices.secrets()
            self.assertTrue(is_tree(tree))
            try:
                made = lower(tree, secret)
            except NotValid:
                continue
            told = run_tree(tree, secret, meant, hidden, 200)
            behind, view = run(made, meant, hidden, 1000)
            if behind["place"] is not None:
                self.assertIsNone(told)
                continue
            ended += 1
            seen = [what for _, what in view if what is not None]
            self.assertEqual(told, (behind["registers"], behind["slots"], behind["counts"], seen))
        self.assertGreater(ended, 300)


if __name__ == "__main__":
    unittest.main()
