import copy
import unittest

from guesshush.errors import NotValid
from guesshush.plain import after_step, first_state, outcome, run
from guesshush.programs import is_program
from tests.helper import meaning, program, secrets, state

END = ("end",)

# A program with a loop over its inputs, which uses each of the ten instructions.
LOOP = program(
    ("ask", 0),
    ("test", 0, 0, 8),
    ("mix", 1, 0, 3),
    ("mask", 2, 1, 1),
    ("load", 1, 1, 1),
    ("put", 0, 1),
    ("fence",),
    ("jump", 0),
    ("get", 2, 0),
    END,
    secret=(3,),
)
LOOP_MEANING = meaning(
    first=(5, 6), second=(30,), asked=(5, 6, 9), mixed=({(5, 77): 30}, {(6, 77): 31}), loaded=(40, 41))
LOOP_SECRETS = secrets(registers=(77,), loaded=(50, 51))
LOOP_VIEW = [
    (0, None), (1, ("in",)), (2, None), (3, None), (4, ("at", 1, 30)), (5, None), (6, None), (7, None),
    (0, None), (1, ("in",)), (2, None), (3, None), (4, ("at", 1, 31)), (5, None), (6, None), (7, None),
    (0, None), (1, ("out",)), (8, None), (9, None),
]


class FirstStateTest(unittest.TestCase):
    """Promise [6]."""

    def test_without_secrets(self):
        self.assertEqual(first_state(program(END), secrets(registers=(7, 8))), state(0))

    def test_with_secrets(self):
        given = secrets(registers=(7, 8, 9), loaded=(1,))
        self.assertEqual(first_state(program(END, secret=(1, 3)), given), state(0, (0, 7, 0, 8)))
        self.assertEqual(first_state(program(END, secret=(0, 1)), secrets(registers=(7,))), state(0, (7, 0, 0, 0)))

    def test_kinds(self):
        first = first_state(program(END, secret=(1,)), secrets(registers=(7,)))
        self.assertEqual(sorted(first), ["counts", "place", "registers", "slots"])
        for key in ("registers", "slots", "counts"):
            self.assertIs(type(first[key]), tuple)
            self.assertTrue(all(type(value) is int for value in first[key]))


class StepTest(unittest.TestCase):
    """Promises [7] and [8], and point [3]'s table of instructions."""

    BEFORE = state(1, (11, 12, 13, 14), (21, 22), (1, 2, 3))
    MEANING = meaning(
        first=(11, 12), second=(13,), asked=(31, 32, 33), loaded=(51, 52, 53, 54, 55),
        mixed=({(11, 12): 41}, {(11, 12): 42}, {(11, 12): 43, (14, 14): 45}, {(11, 12): 44}))
    SECRETS = secrets(registers=(99,), loaded=(61, 62, 63, 64, 65))

    def step(self, row, before=None, meant=None, hidden=None):
        """The step of a row that stands at the place 1, with the given state before it."""
        before = copy.deepcopy(before or self.BEFORE)
        meant = copy.deepcopy(meant or self.MEANING)
        hidden = copy.deepcopy(hidden or self.SECRETS)
        rows = program(END, row, END, END)
        passed = (rows, meant, hidden, before)
        kept = copy.deepcopy(passed)
        behind, seen = after_step(*passed)
        self.assertEqual(passed, kept)
        self.assertIsNot(behind, before)
        self.assertEqual(list(map(type, (behind["registers"], behind["slots"], behind["counts"]))), [tuple] * 3)
        return behind, seen

    def check(self, row, seen=None, **changes):
        behind = {**self.BEFORE, "place": 2, **changes}
        self.assertEqual(self.step(row), (behind, (1, seen)))

    def test_ask(self):
        self.check(("ask", 0), registers=(32, 12, 13, 14), counts=(2, 2, 3))
        self.check(("ask", 3), registers=(11, 12, 13, 32), counts=(2, 2, 3))

    def test_ask_behind_the_end_of_the_list(self):
        behind, seen = self.step(("ask", 2), state(1, (1, 1, 1, 1), counts=(3, 0, 0)))
        self.assertEqual((behind, seen), (state(2, (1, 1, 0, 1), counts=(4, 0, 0)), (1, None)))

    def test_mix(self):
        self.check(("mix", 2, 0, 1), registers=(11, 12, 43, 14), counts=(1, 3, 3))
        self.check(("mix", 0, 0, 1), registers=(43, 12, 13, 14), counts=(1, 3, 3))
        self.check(("mix", 3, 3, 3), registers=(11, 12, 13, 45), counts=(1, 3, 3))

    def test_mix_without_a_key(self):
        self.check(("mix", 2, 1, 0), registers=(11, 12, 0, 14), counts=(1, 3, 3))
        behind, _ = self.step(("mix", 2, 0, 1), state(1, (11, 12, 13, 14), counts=(0, 4, 0)))
        self.assertEqual(behind, state(2, (11, 12, 0, 14), counts=(0, 5, 0)))

    def test_load_in_the_array_gives_the_public_value(self):
        self.check(("load", 3, 0, 1), ("at", 0, 12), registers=(11, 12, 13, 54), counts=(1, 2, 4))
        self.check(("load", 2, 1, 2), ("at", 1, 13), registers=(11, 12, 54, 14), counts=(1, 2, 4))

    def test_load_out_of_the_array_gives_the_secret_value(self):
        self.check(("load", 3, 1, 1), ("at", 1, 12), registers=(11, 12, 13, 64), counts=(1, 2, 4))
        self.check(("load", 2, 0, 2), ("at", 0, 13), registers=(11, 12, 64, 14), counts=(1, 2, 4))

    def test_load_at_0_gives_the_public_value(self):
        behind, seen = self.step(("load", 1, 0, 2), state(1))
        self.assertEqual((behind, seen), (state(2, (0, 51, 0, 0), counts=(0, 0, 1)), (1, ("at", 0, 0))))

    def test_load_behind_the_ends_of_the_lists(self):
        for array in (0, 1):
            behind, seen = self.step(("load", 1, array, 0), state(1, (11, 12, 0, 0), counts=(0, 0, 5)))
            self.assertEqual(behind, state(2, (11, 0, 0, 0), counts=(0, 0, 6)))
            self.assertEqual(seen, (1, ("at", array, 11)))

    def test_mask(self):
        self.check(("mask", 3, 0, 1), registers=(11, 12, 13, 12))
        self.check(("mask", 3, 1, 1), registers=(11, 12, 13, 0))
        self.check(("mask", 2, 1, 2))
        self.check(("mask", 2, 0, 2), registers=(11, 12, 0, 14))

    def test_test(self):
        self.check(("test", 0, 0, 3), ("in",), place=2)
        self.check(("test", 0, 1, 3), ("out",), place=3)
        self.check(("test", 2, 1, 0), ("in",), place=2)
        self.check(("test", 3, 1, 0), ("out",), place=0)

    def test_test_of_0(self):
        behind, seen = self.step(("test", 0, 1, 3), state(1))
        self.assertEqual((behind, seen), (state(2), (1, ("in",))))

    def test_put(self):
        self.check(("put", 0, 3), slots=(14, 22))
        self.check(("put", 1, 2), slots=(21, 13))

    def test_get(self):
        self.check(("get", 0, 1), registers=(22, 12, 13, 14))
        self.check(("get", 3, 0), registers=(11, 12, 13, 21))

    def test_fence(self):
        self.check(("fence",))

    def test_jump(self):
        self.check(("jump", 3), place=3)
        self.check(("jump", 0), place=0)
        self.check(("jump", 1), place=1)

    def test_end(self):
        self.check(END, place=None)

    def test_a_step_behind_the_end(self):
        passed = (program(END), meaning(), secrets(), state(None, (1, 2, 3, 4)))
        kept = copy.deepcopy(passed)
        with self.assertRaises(NotValid):
            after_step(*passed)
        self.assertEqual(passed, kept)

    def test_a_step_where_no_instruction_stands(self):
        for place in (1, 2, -1):
            with self.assertRaises(NotValid):
                after_step(program(END), meaning(), secrets(), state(place))

    def test_numbers_somewhat_beyond_their_limits_raise_no_error(self):
        for row in (("ask", 4), ("mix", 0, 4, 5), ("load", 0, 2, 4), ("mask", 0, 2, 4),
                    ("test", 4, 2, 9), ("put", 2, 0), ("put", 0, 4), ("get", 0, 2), ("jump", 9)):
            self.step(row)

    def test_a_state_that_was_returned_stays(self):
        given = (LOOP, LOOP_MEANING, LOOP_SECRETS)
        current = first_state(LOOP, LOOP_SECRETS)
        returned = []
        kept = []
        while current["place"] is not None:
            returned.append(current)
            kept.append(copy.deepcopy(current))
            current, _ = after_step(*given, current)
        self.assertEqual(len(returned), len(LOOP_VIEW))
        self.assertEqual(returned, kept)


class OutcomeTest(unittest.TestCase):
    """The interface's outcome, by points [3] and [4]."""

    ROWS = program(("test", 1, 1, 2), ("ask", 0), END)

    def test_in(self):
        given = meaning(second=(7,))
        self.assertEqual(outcome(self.ROWS, given, state(0, (0, 7, 0, 0))), "in")
        self.assertEqual(outcome(self.ROWS, given, state(0, (8, 0, 8, 8))), "in")

    def test_out(self):
        given = meaning(first=(8,), second=(7,))
        self.assertEqual(outcome(self.ROWS, given, state(0, (7, 8, 7, 7))), "out")

    def test_no_test(self):
        self.assertIsNone(outcome(self.ROWS, meaning(), state(2)))
        for row in (("ask", 0), ("mix", 0, 0, 0), ("load", 0, 0, 0), ("mask", 0, 0, 0), ("put", 0, 0),
                    ("get", 0, 0), ("fence",), ("jump", 0), END):
            self.assertIsNone(outcome(program(row, END), meaning(), state(0)))

    def test_behind_the_end(self):
        self.assertIsNone(outcome(self.ROWS, meaning(), state(None)))
        self.assertIsNone(outcome(program(("test", 0, 0, 0)), meaning(), state(-1)))
        self.assertIsNone(outcome(self.ROWS, meaning(), state(3)))

    def test_what_is_passed_stays_as_it_was(self):
        passed = (copy.deepcopy(self.ROWS), meaning(second=(7,)), state(0))
        kept = copy.deepcopy(passed)
        outcome(*passed)
        self.assertEqual(passed, kept)


class RunTest(unittest.TestCase):
    """The interface's run, by points [6] to [8]."""

    LAST = state(None, (9, 51, 51, 77), (51, 0), (3, 2, 2))

    def run_loop(self, steps):
        return run(LOOP, LOOP_MEANING, LOOP_SECRETS, steps)

    def test_the_program_of_these_tests_is_one(self):
        self.assertIs(is_program(LOOP), True)

    def test_no_step(self):
        self.assertEqual(self.run_loop(0), (state(0, (0, 0, 0, 77)), []))
        self.assertEqual(self.run_loop(-1), (state(0, (0, 0, 0, 77)), []))

    def test_fewer_steps(self):
        behind = state(5, (5, 40, 30, 77), counts=(1, 1, 1))
        self.assertEqual(self.run_loop(5), (behind, LOOP_VIEW[:5]))
        behind = state(5, (6, 51, 0, 77), (40, 0), (2, 2, 2))
        self.assertEqual(self.run_loop(13), (behind, LOOP_VIEW[:13]))

    def test_one_step_less_than_to_the_end(self):
        self.assertEqual(self.run_loop(19), ({**self.LAST, "place": 9}, LOOP_VIEW[:19]))

    def test_exactly_as_many_steps(self):
        self.assertEqual(self.run_loop(20), (self.LAST, LOOP_VIEW))

    def test_more_steps(self):
        for steps in (21, 22, 1000):
            self.assertEqual(self.run_loop(steps), (self.LAST, LOOP_VIEW))

    def test_each_number_of_steps_is_one_more_step(self):
        current = first_state(LOOP, LOOP_SECRETS)
        for steps in range(20):
            self.assertEqual(self.run_loop(steps), (current, LOOP_VIEW[:steps]))
            current, seen = after_step(LOOP, LOOP_MEANING, LOOP_SECRETS, current)
            self.assertEqual(seen, LOOP_VIEW[steps])

    def test_a_program_without_an_end(self):
        rows = program(("ask", 0), ("jump", 0))
        self.assertEqual(run(rows, meaning(asked=(3, 4)), secrets(), 3), (state(1, (4, 0, 0, 0), counts=(2, 0, 0)),
                                                                          [(0, None), (1, None), (0, None)]))

    def test_more_than_32_rows(self):
        rows = program(*[("ask", 0)] * 40, END)
        behind, view = run(rows, meaning(asked=range(1, 41)), secrets(), 100)
        self.assertEqual(behind, state(None, (40, 0, 0, 0), counts=(40, 0, 0)))
        self.assertEqual(view, [(place, None) for place in range(41)])

    def test_what_is_passed_and_returned_stays_as_it_was(self):
        passed = copy.deepcopy((LOOP, LOOP_MEANING, LOOP_SECRETS))
        returned = run(*passed, 20)
        kept = copy.deepcopy(returned)
        self.assertIs(type(returned[1]), list)
        run(*passed, 7)
        after = run(*passed, 20)
        after[1].append(None)
        self.assertEqual(passed, (LOOP, LOOP_MEANING, LOOP_SECRETS))
        self.assertEqual(returned, kept)
        self.assertEqual(run(*passed, 20), kept)


if __name__ == "__main__":
    unittest.main()
