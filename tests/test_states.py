import copy
import unittest

from guesshush.errors import NotValid
from guesshush.guess import Machine
from guesshush.programs import is_in
from guesshush.states import first_state, is_leak, is_state, steps
from tests.helper import Choices, program, secrets

Z = ("zero",)
S = ("secret", ())
S0 = ("secret", (0,))
S1 = ("secret", (1,))
S01 = ("secret", (0, 1))
P0, P1, P2, P3 = (("public", n) for n in range(4))

# Facts of one public value.
NONE = (None, None)

END = ("end",)
FENCE = ("fence",)
STEP = ("step",)
IN = ("guess", "in")
OUT = ("guess", "out")
STALE = ("stale",)

WINDOWS = (0, 1, 2, 3, 40, 41, 1000, None)
NO_WINDOWS = (-1, -40, True, False, "1", "", 1.0, (), (1,), [], {})

SLOT = (Z, Z, None)
SLOTS = (SLOT, SLOT)


def st(place=1, registers=(Z, Z, Z, Z), slots=SLOTS, facts=(), depth=None):
    return (place, registers, slots, facts, depth)


class StatesCase(unittest.TestCase):
    def steps(self, row, state, window=None):
        """The steps of a row that stands at the place 1."""
        passed = program(END, row, END, END, END, secret=(0,)), state, window
        kept = copy.deepcopy(passed)
        found = steps(*passed)
        self.assertEqual(passed, kept)
        self.assertIs(type(found), list)
        self.assertTrue(is_state(state), state)
        for step in found:
            self.assertEqual((type(step), len(step), type(step[0]), len(step[0])), (tuple, 2, tuple, 2))
            self.assertTrue(is_state(step[1]), step)
        return found

    def check(self, row, state, *found, window=None):
        """The steps are these triples of a directive, a fact and a state."""
        told = [((directive, fact), behind) for directive, fact, behind in found]
        self.assertEqual(self.steps(row, state, window), told)
        # As 1 == True, what == does not tell apart is compared by its text.
        self.assertEqual(repr(self.steps(row, state, window)), repr(told))

    def leaks(self, row, state, window=None):
        told = is_leak(program(END, row, END, END, END), state, window)
        self.assertIs(type(told), bool)
        if told:
            self.assertEqual(self.steps(row, state, window), [])
        return told


class FirstTest(StatesCase):
    """Point [20]."""

    def test_first(self):
        for secret, registers in (((), (Z, Z, Z, Z)), ((1,), (Z, S, Z, Z)), ((0, 3), (S, Z, Z, S)),
                                  ((0, 1, 2, 3), (S, S, S, S))):
            first = first_state(program(END, secret=secret))
            self.assertEqual(first, (0, registers, ((Z, Z, None), (Z, Z, None)), (), None))
            self.assertTrue(is_state(first))


class WindowTest(StatesCase):
    """Point [19], as far as it speaks of what is a window."""

    def test_no_windows(self):
        for row in (("ask", 0), ("test", 0, 0, 0), ("load", 0, 0, 0), END):
            given = program(row, END)
            for window in NO_WINDOWS:
                for state in (first_state(given), st(0, (S, Z, Z, Z), depth=0)):
                    with self.assertRaises(NotValid):
                        steps(given, state, window)
                    with self.assertRaises(NotValid):
                        is_leak(given, state, window)

    def test_windows(self):
        given = program(("ask", 0), END)
        for window in WINDOWS:
            self.assertEqual(len(steps(given, first_state(given), window)), 1)
            self.assertIs(is_leak(given, first_state(given), window), False)


class StepTest(StatesCase):
    """Point [21], instruction by instruction, without a bound and without open guesses."""

    def test_ask(self):
        self.check(("ask", 2), st(), (STEP, None, st(2, (Z, Z, P0, Z), facts=(NONE,))))
        facts = ((True, None), (None, False))
        self.check(
            ("ask", 1), st(1, (P0, S, P1, Z), facts=facts),
            (STEP, None, st(2, (P0, P1, P2, Z), facts=((True, None), NONE, (None, False)))))
        # What the register had is forgotten.
        self.check(
            ("ask", 0), st(1, (P0, S, P1, Z), facts=facts),
            (STEP, None, st(2, (P0, S, P1, Z), facts=(NONE, (None, False)))))
        self.check(
            ("ask", 0), st(1, (P0, S, P0, Z), facts=facts[:1]),
            (STEP, None, st(2, (P0, S, P1, Z), facts=(NONE, (True, None)))))

    def test_mix_of_what_is_public(self):
        facts = ((True, True), (False, None))
        for a, b in ((0, 1), (1, 0), (0, 0), (0, 2), (2, 0), (2, 2)):
            self.check(
                ("mix", 3, a, b), st(1, (P0, P1, Z, S), facts=facts),
                (STEP, None, st(2, (P0, P1, Z, P2), facts=(*facts, NONE))))

    def test_mix_of_what_is_secret(self):
        for secret in (S, S0, S01):
            for a, b in ((0, 1), (1, 0), (0, 0), (0, 2), (2, 0)):
                self.check(
                    ("mix", 3, a, b), st(1, (secret, P0, Z, Z), facts=(NONE,)),
                    (STEP, None, st(2, (secret, P0, Z, S), facts=(NONE,))))

    def test_mix_forgets(self):
        self.check(
            ("mix", 0, 0, 1), st(1, (P0, P1, Z, Z), facts=((True, True), (False, False))),
            (STEP, None, st(2, (P0, P1, Z, Z), facts=(NONE, (False, False)))))

    def test_jump(self):
        for target in (0, 1, 4):
            self.check(
                ("jump", target), st(1, (P0, S0, Z, Z), facts=((True, None),)),
                (STEP, None, st(target, (P0, S0, Z, Z), facts=((True, None),))))

    def test_put(self):
        before = st(1, (S0, P0, Z, Z), ((P1, Z, None), SLOT), (NONE, (True, None)))
        self.check(
            ("put", 0, 0), before,
            (STEP, None, st(2, (S0, P0, Z, Z), ((S0, P1, 0), SLOT), (NONE, (True, None)))))
        self.check(
            ("put", 1, 1), before,
            (STEP, None, st(2, (S0, P0, Z, Z), ((P1, Z, None), (P0, Z, 0)), (NONE, (True, None)))))
        self.check(
            ("put", 0, 2), before,
            (STEP, None, st(2, (S0, P0, Z, Z), ((Z, P1, 0), SLOT), (NONE, (True, None)))))

    def test_put_forgets_the_elder_value(self):
        self.check(
            ("put", 0, 3), st(1, (Z, Z, Z, S), ((P0, P1, 0), SLOT), (NONE, (True, None))),
            (STEP, None, st(2, (Z, Z, Z, S), ((S, P0, 0), SLOT), (NONE,))))
        # The same value may come to stand in another order.
        self.check(
            ("put", 0, 3), st(1, (Z, Z, Z, P0), ((P1, S, 0), SLOT), (NONE, (True, None))),
            (STEP, None, st(2, (Z, Z, Z, P0), ((P0, P1, 0), SLOT), (NONE, (True, None)))))

    def test_load_by_zero(self):
        for array in (0, 1):
            self.check(("load", 2, array, 1), st(), (STEP, None, st(2, (Z, Z, P0, Z), facts=(NONE,))))

    def test_load_by_public(self):
        state = st(1, (Z, P0, Z, P1), facts=((None, False), (True, None)))
        self.check(
            ("load", 2, 0, 1), state,
            (STEP, (0, True), st(2, (Z, P0, P1, P2), facts=((True, False), NONE, (True, None)))),
            (STEP, (0, False), st(2, (Z, P0, S, P1), facts=((False, False), (True, None)))))
        self.check(
            ("load", 2, 1, 3), state,
            (STEP, (1, True), st(2, (Z, P0, P1, P2), facts=((None, False), NONE, (True, True)))),
            (STEP, (1, False), st(2, (Z, P0, S, P1), facts=((None, False), (True, False)))))

    def test_load_by_public_of_which_the_fact_is_known(self):
        state = st(1, (Z, P0, Z, P1), facts=((None, False), (True, None)))
        self.check(("load", 2, 1, 1), state, (STEP, None, st(2, (Z, P0, S, P1), facts=state[3])))
        self.check(
            ("load", 2, 0, 3), state,
            (STEP, None, st(2, (Z, P0, P1, P2), facts=((None, False), NONE, (True, None)))))

    def test_load_into_its_own_register(self):
        self.check(
            ("load", 1, 0, 1), st(1, (Z, P0, Z, Z), facts=((None, True),)),
            (STEP, (0, True), st(2, (Z, P0, Z, Z), facts=(NONE,))), (STEP, (0, False), st(2, (Z, S, Z, Z))))
        self.check(
            ("load", 1, 0, 1), st(1, (Z, P0, P0, Z), facts=((None, True),)),
            (STEP, (0, True), st(2, (Z, P0, P1, Z), facts=(NONE, (True, True)))),
            (STEP, (0, False), st(2, (Z, S, P0, Z), facts=((False, True),))))

    def test_mask_of_zero(self):
        for array in (0, 1):
            self.check(("mask", 2, array, 1), st(1, (Z, Z, S, Z)), (STEP, None, st(2, (Z, Z, Z, Z))))

    def test_mask_of_public(self):
        state = st(1, (Z, P0, S, P1), facts=((None, False), (True, None)))
        self.check(
            ("mask", 2, 0, 1), state,
            (STEP, (0, True), st(2, (Z, P0, P0, P1), facts=((True, False), (True, None)))),
            (STEP, (0, False), st(2, (Z, P0, Z, P1), facts=((False, False), (True, None)))))
        self.check(
            ("mask", 1, 1, 3), state,
            (STEP, (1, True), st(2, (Z, P0, S, P0), facts=((True, True),))),
            (STEP, (1, False), st(2, (Z, Z, S, P0), facts=((True, False),))))
        self.check(("mask", 0, 1, 1), state, (STEP, None, st(2, (Z, P0, S, P1), facts=state[3])))
        self.check(
            ("mask", 0, 0, 3), state,
            (STEP, None, st(2, (P0, P1, S, P0), facts=((True, None), (None, False)))))

    def test_mask_forgets(self):
        self.check(
            ("mask", 1, 0, 1), st(1, (Z, P0, S, Z), facts=(NONE,)),
            (STEP, (0, True), st(2, (Z, P0, S, Z), facts=((True, None),))), (STEP, (0, False), st(2, (Z, Z, S, Z))))

    def test_mask_of_secret(self):
        for before, array, behind in ((S, 0, S0), (S, 1, S1), (S0, 1, S01), (S1, 0, S01), (S0, 0, S0), (S01, 1, S01)):
            self.check(
                ("mask", 2, array, 1), st(1, (Z, before, Z, Z)), (STEP, None, st(2, (Z, before, behind, Z))))

    def test_test_of_zero(self):
        for array in (0, 1):
            self.check(
                ("test", 1, array, 4), st(1, (S, Z, Z, Z)),
                (STEP, None, st(2, (S, Z, Z, Z))), (OUT, None, st(4, (S, Z, Z, Z), depth=0)))

    def test_test_of_public(self):
        state = st(1, (Z, P0, S, P1), facts=((None, False), (True, None)))
        true, false = ((True, False), (True, None)), ((False, False), (True, None))
        self.check(
            ("test", 1, 0, 4), state,
            (STEP, (0, True), st(2, state[1], facts=true)),
            (OUT, (0, True), st(4, state[1], facts=true, depth=0)),
            (STEP, (0, False), st(4, state[1], facts=false)),
            (IN, (0, False), st(2, state[1], facts=false, depth=0)))

    def test_test_of_public_of_which_the_fact_is_known(self):
        state = st(1, (Z, P0, S, P1), facts=((None, False), (True, None)))
        self.check(
            ("test", 1, 1, 4), state,
            (STEP, None, st(4, state[1], facts=state[3])), (IN, None, st(2, state[1], facts=state[3], depth=0)))
        self.check(
            ("test", 3, 0, 4), state,
            (STEP, None, st(2, state[1], facts=state[3])), (OUT, None, st(4, state[1], facts=state[3], depth=0)))

    def test_test_of_secret(self):
        for secret, array in ((S0, 0), (S1, 1), (S01, 0), (S01, 1)):
            self.check(
                ("test", 1, array, 4), st(1, (Z, secret, Z, Z)),
                (STEP, None, st(2, (Z, secret, Z, Z))), (OUT, None, st(4, (Z, secret, Z, Z), depth=0)))

    def test_get(self):
        for present in (Z, S0, P0):
            facts = (NONE,) if present == P0 else ()
            slots = ((present, Z, None), SLOT)
            self.check(
                ("get", 3, 0), st(1, (Z, Z, Z, S), slots, facts),
                (STEP, None, st(2, (Z, Z, Z, present), slots, facts)))
        self.check(("get", 3, 1), st(1, (Z, Z, Z, S)), (STEP, None, st(2)))

    def test_get_of_what_was_put(self):
        slots = ((P0, P1, 0), (S0, Z, 0))
        facts = ((True, None), (None, False))
        self.check(
            ("get", 3, 0), st(1, (S, Z, Z, S), slots, facts),
            (STEP, None, st(2, (S, Z, Z, P0), slots, facts)),
            (STALE, None, st(2, (S, Z, Z, P0), ((P1, P0, 0), slots[1]), (facts[1], facts[0]), 0)))
        self.check(
            ("get", 3, 1), st(1, (S, Z, Z, S), slots, facts),
            (STEP, None, st(2, (S, Z, Z, S0), slots, facts)), (STALE, None, st(2, (S, Z, Z, Z), slots, facts, 0)))

    def test_fence(self):
        self.check(
            FENCE, st(1, (S, P0, Z, Z), ((S0, P1, 0), (P2, Z, 0)), ((True, None), (None, True), NONE)),
            (STEP, None, st(2, (S, P0, Z, Z), ((S0, Z, None), (P1, Z, None)), ((True, None), NONE))))
        self.check(FENCE, st(), (STEP, None, st(2)))

    def test_end(self):
        for window in WINDOWS:
            for depth in (None, 0):
                self.check(END, st(1, (S, Z, Z, Z), depth=depth), window=window)

    def test_no_instruction(self):
        for place in (2, 3, 40):
            self.assertEqual(steps(program(("ask", 0), END), st(place), None), [])
            self.assertIs(is_leak(program(("ask", 0), END), st(place), None), False)

    def test_numbers_beyond_the_limits(self):
        # What is not there reads as zero, and nothing is written there.
        state = st(1, (S, P0, S, S), facts=((False, False),))
        for row in (("ask", 4), ("mix", 4, 0, 1), ("load", 4, 0, 5), ("mask", 5, 1, 0), ("put", 2, 0)):
            self.check(row, state, (STEP, None, st(2, *state[1:4])))
        self.check(("get", 0, 2), state, (STEP, None, st(2, (Z, P0, S, S), facts=state[3])))
        self.check(("test", 4, 0, 3), state, (STEP, None, st(2, *state[1:4])), (OUT, None, st(3, *state[1:4], 0)))
        self.check(("mask", 0, 2, 1), state, (STEP, (2, True), st(2, (P0, P0, S, S), facts=state[3])),
                   (STEP, (2, False), st(2, (Z, P0, S, S), facts=state[3])))

    def test_a_program_with_more_than_32_rows(self):
        rows = program(*[("ask", 0)] * 50, END)
        self.assertEqual(steps(rows, st(45), None), [((STEP, None), st(46, (P0, Z, Z, Z), facts=(NONE,)))])


class NumberingTest(StatesCase):
    """The numbering of public values, by point [18]."""

    def test_registers_before_slots_and_present_before_old(self):
        facts = ((True, None), (False, None), (None, True), (None, False), (True, True), (False, False))
        # The first value comes to stand behind all others.
        state = st(1, (P0, Z, P1, Z), ((P2, P3, 0), (("public", 4), ("public", 5), 0)), facts)
        self.check(
            ("put", 1, 0), state,
            (STEP, None, st(2, (P0, Z, P1, Z), ((P2, P3, 0), (P0, ("public", 4), 0)), facts[:5])))

    def test_a_value_that_moves_gets_another_number(self):
        facts = ((True, None), (False, None), (None, True), (None, False))
        state = st(1, (P0, P1, Z, Z), ((P2, P3, 0), SLOT), facts)
        self.check(
            ("get", 0, 0), state,
            (STEP, None, st(2, (P0, P1, Z, Z), ((P0, P2, 0), SLOT), (facts[2], facts[1], facts[3]))),
            (STALE, None, st(2, (P0, P1, Z, Z), ((P2, P0, 0), SLOT), (facts[3], facts[1], facts[2]), 0)))
        self.check(
            ("mask", 0, 0, 1), st(1, (P0, P1, P0, Z), facts=((True, None), (True, False))),
            (STEP, None, st(2, (P0, P0, P1, Z), facts=((True, False), (True, None)))))

    def test_equal_values_share_a_number(self):
        state = st(1, (P0, P0, Z, P1), ((P0, P1, 0), (P1, P0, 0)), (NONE, (True, None)))
        self.check(
            ("ask", 0), state,
            (STEP, None, st(2, (P0, P1, Z, P2), ((P1, P2, 0), (P2, P1, 0)), (NONE, NONE, (True, None)))))

    def test_a_fact_is_of_the_value_wherever_it_stands(self):
        state = st(1, (S, P0, Z, P0), ((P0, Z, None), SLOT), (NONE,))
        self.check(
            ("test", 3, 1, 4), state,
            (STEP, (1, True), st(2, state[1], state[2], ((None, True),))),
            (OUT, (1, True), st(4, state[1], state[2], ((None, True),), 0)),
            (STEP, (1, False), st(4, state[1], state[2], ((None, False),))),
            (IN, (1, False), st(2, state[1], state[2], ((None, False),), 0)))

    def test_new_values_between_others(self):
        facts = ((True, None), (False, None))
        self.check(
            ("ask", 1), st(1, (P0, Z, P1, Z), facts=facts),
            (STEP, None, st(2, (P0, P1, P2, Z), facts=(facts[0], NONE, facts[1]))))
        self.check(
            ("ask", 3), st(1, (P0, Z, Z, Z), ((P1, Z, None), SLOT), facts),
            (STEP, None, st(2, (P0, Z, Z, P1), ((P2, Z, None), SLOT), (facts[0], NONE, facts[1]))))


# An instruction of each kind but end that has one way to go, and where it leads from the place 1.
PLAIN = (("ask", 3), ("mix", 3, 0, 0), ("load", 3, 0, 2), ("mask", 3, 0, 2), ("put", 1, 3), ("get", 3, 1), FENCE,
         ("jump", 2), ("test", 2, 0, 3))


class BoundTest(StatesCase):
    """Point [19]: ages and depths, with and without a bound."""

    def ages(self, row, ages, window, depth=None):
        """The ages of the slots behind the step of a row."""
        slots = tuple((S, Z if age is None else S, age) for age in ages)
        (label, behind), *_ = self.steps(row, st(1, slots=slots, depth=depth), window)
        self.assertEqual(label[0], STEP)
        return [slot[2] for slot in behind[2]]

    def test_each_instruction_ages(self):
        for row in PLAIN:
            if row not in (FENCE, ("put", 1, 3)):
                self.assertEqual(self.ages(row, (0, 3), 40), [1, 4], row)
                self.assertEqual(self.ages(row, (None, 3), 40), [None, 4], row)
                self.assertEqual(self.ages(row, (5, 38), 40), [6, 39], row)
                self.assertEqual(self.ages(row, (39, 38), 40), [None, 39], row)
                self.assertEqual(self.ages(row, (1, 0), 1), [None, None], row)
                self.assertEqual(self.ages(row, (0, 7), None), [0, 0], row)
                self.assertEqual(self.ages(row, (None, 0), None), [None, 0], row)

    def test_a_put_ages_the_other_slot(self):
        self.assertEqual(self.ages(("put", 1, 3), (2, 3), 40), [3, 0])
        self.assertEqual(self.ages(("put", 0, 3), (2, 3), 40), [0, 4])
        self.assertEqual(self.ages(("put", 0, 3), (None, 3), 4), [0, None])
        self.assertEqual(self.ages(("put", 0, 3), (None, None), None), [0, None])
        self.assertEqual(self.ages(("put", 0, 3), (0, 0), None), [0, 0])
        self.assertEqual(self.ages(("put", 0, 3), (None, None), 1), [0, None])
        self.assertEqual(self.ages(("put", 0, 3), (None, None), 0), [None, None])

    def test_a_fence_ends_all_ages(self):
        for window in WINDOWS:
            self.assertEqual(self.ages(FENCE, (0, 0), window), [None, None])

    def test_without_an_age_there_is_no_old_value(self):
        slots = ((P0, P1, 1), (S, P2, 0))
        facts = ((True, None), (None, True), (False, None))
        self.check(
            ("jump", 3), st(1, slots=slots, facts=facts),
            (STEP, None, st(3, slots=((P0, Z, None), (S, P1, 1)), facts=(facts[0], facts[2]))), window=2)
        self.check(
            ("jump", 3), st(1, slots=slots, facts=facts),
            (STEP, None, st(3, slots=((P0, Z, None), (S, Z, None)), facts=(facts[0],))), window=1)
        self.check(("put", 0, 0), st(1, slots=((S, Z, None), SLOT)),
                   (STEP, None, st(2, slots=((Z, Z, None), SLOT))), window=0)

    def test_each_instruction_deepens(self):
        for row in PLAIN:
            if row != FENCE:
                for window, depth, behind in ((40, 0, 1), (40, 39, 40), (2, 1, 2), (1, 0, 1), (None, 0, 0),
                                              (40, None, None), (None, None, None), (0, None, None)):
                    self.assertEqual(self.steps(row, st(depth=depth), window)[0][1][4], behind, row)

    def test_nothing_is_made_at_the_bound(self):
        for row in PLAIN:
            for window, depth in ((0, 0), (0, 1), (1, 1), (2, 2), (2, 3), (40, 40), (40, 1000)):
                self.check(row, st(depth=depth), window=window)
            if row != FENCE:
                self.assertNotEqual(self.steps(row, st(depth=2), 3), [])

    def test_no_fence_while_a_wrong_guess_is_open(self):
        for window in WINDOWS:
            self.check(FENCE, st(depth=0), window=window)
            self.assertEqual(len(self.steps(FENCE, st(), window)), 1)

    def test_a_guess_opens_a_wrong_guess(self):
        for window, depth, behind in ((40, None, 0), (1, None, 0), (1, 0, 1), (40, 0, 1), (40, 39, 40),
                                      (None, None, 0), (None, 0, 0)):
            step = None if depth is None else behind
            self.check(("test", 0, 0, 3), st(depth=depth), (STEP, None, st(2, depth=step)),
                       (OUT, None, st(3, depth=behind)), window=window)

    def test_a_stale_get_opens_a_wrong_guess(self):
        for window, depth, behind in ((40, None, 0), (2, None, 0), (2, 0, 1), (40, 39, 40), (None, None, 0),
                                      (None, 0, 0)):
            step = None if depth is None else behind
            slots = ((S, S0, 0), SLOT)
            made = ((S, S0, 0 if window is None else 1), SLOT)
            self.check(("get", 0, 0), st(1, slots=slots, depth=depth),
                       (STEP, None, st(2, (S, Z, Z, Z), made, (), step)),
                       (STALE, None, st(2, (S0, Z, Z, Z), made, (), behind)), window=window)

    def test_a_guess_ages_too(self):
        slots = ((S, S, 0), (S, S, 3))
        for window, behind in ((40, ((S, S, 1), (S, S, 4))), (4, ((S, S, 1), (S, Z, None))),
                               (None, ((S, S, 0), (S, S, 0)))):
            given = slots if window is not None else behind
            self.check(("test", 0, 0, 3), st(1, slots=given), (STEP, None, st(2, slots=behind)),
                       (OUT, None, st(3, slots=behind, depth=0)), window=window)

    def test_the_bound_0_has_no_guess(self):
        self.check(("test", 0, 0, 3), st(), (STEP, None, st(2)), window=0)
        state = st(1, (P0, Z, Z, Z), facts=(NONE,))
        self.check(("test", 0, 1, 3), state, (STEP, (1, True), st(2, (P0, Z, Z, Z), facts=((None, True),))),
                   (STEP, (1, False), st(3, (P0, Z, Z, Z), facts=((None, False),))), window=0)

    def test_the_bound_0_has_no_stale_get(self):
        for slot in ((S, Z, None), (S, P0, 0)):
            facts = (NONE,) if slot[1] == P0 else ()
            self.check(("get", 0, 0), st(1, slots=(slot, SLOT), facts=facts),
                       (STEP, None, st(2, (S, Z, Z, Z), ((S, Z, None), SLOT))), window=0)

    def test_a_stale_get_within_the_bound(self):
        for window, age, can in ((1, 0, True), (1, 1, False), (2, 1, True), (2, 2, False), (2, 5, False),
                                 (40, 39, True), (40, 40, False), (None, 0, True), (None, 9, True),
                                 (40, None, False), (None, None, False)):
            slots = ((S, Z, age), SLOT)
            directives = [label[0] for label, _ in self.steps(("get", 0, 0), st(1, slots=slots), window)]
            self.assertEqual(directives, [STEP, STALE] if can else [STEP])

    def test_the_window_1(self):
        # The put and the get behind it, then one more instruction.
        rows = program(("put", 0, 0), ("get", 0, 0), ("ask", 1), ("ask", 2), END, secret=(0,))
        state = first_state(rows)
        places = []
        for directive in (STEP, STALE, STEP):
            found = {label[0]: behind for label, behind in steps(rows, state, 1)}
            state = found[directive]
            places.append((state[0], state[4]))
        self.assertEqual(places, [(1, None), (2, 0), (3, 1)])
        self.assertEqual(steps(rows, state, 1), [])


class LeakTest(StatesCase):
    """Point [22]."""

    def test_loads(self):
        for array in (0, 1):
            for secret in (S, S0, S1, S01):
                self.assertTrue(self.leaks(("load", 0, array, 2), st(1, (Z, Z, secret, Z))))
            for kind, facts in ((Z, ()), (P0, (NONE,)), (P0, ((True, True),)), (P0, ((False, False),))):
                self.assertFalse(self.leaks(("load", 2, array, 1), st(1, (Z, kind, S, S), facts=facts)))

    def test_tests(self):
        for secret, array, leaks in ((S, 0, True), (S, 1, True), (S0, 0, False), (S0, 1, True), (S1, 0, True),
                                     (S1, 1, False), (S01, 0, False), (S01, 1, False)):
            self.assertEqual(self.leaks(("test", 2, array, 0), st(1, (Z, Z, secret, Z))), leaks)
        for array in (0, 1):
            for kind, facts in ((Z, ()), (P0, (NONE,)), (P0, ((True, True),)), (P0, ((False, False),))):
                self.assertFalse(self.leaks(("test", 1, array, 0), st(1, (S, kind, S, S), facts=facts)))

    def test_other_instructions(self):
        slots = ((S, S, 0), (S, S, 0))
        for row in (("ask", 0), ("mix", 0, 1, 2), ("mask", 0, 0, 1), ("put", 0, 0), ("get", 0, 0), FENCE,
                    ("jump", 0), END):
            self.assertFalse(self.leaks(row, st(1, (S, S, S, S), slots)))

    def test_only_if_the_instruction_can_be_made(self):
        for row in (("load", 0, 0, 2), ("test", 2, 0, 0)):
            for window, depth, leaks in ((None, None, True), (None, 0, True), (0, None, True), (0, 0, False),
                                         (1, 0, True), (1, 1, False), (2, 1, True), (2, 2, False), (2, 9, False),
                                         (40, 39, True)):
                self.assertEqual(self.leaks(row, st(1, (Z, Z, S, Z), depth=depth), window), leaks)

    def test_a_state_that_is_none_has_steps(self):
        for row in (("load", 0, 0, 2), ("test", 2, 0, 0)):
            self.assertEqual(self.leaks(row, st()), False)
            self.assertNotEqual(self.steps(row, st()), [])


class IsStateTest(StatesCase):
    """The form of states, by points [17] and [18] and the interface."""

    def states(self, *values):
        for value in values:
            kept = copy.deepcopy(value)
            self.assertIs(is_state(value), True, value)
            self.assertEqual(value, kept)

    def none(self, *values):
        for value in values:
            kept = copy.deepcopy(value)
            self.assertIs(is_state(value), False, value)
            self.assertEqual(value, kept)

    def test_states(self):
        self.states(
            st(), st(0), st(31), st(50), st(depth=0), st(depth=40), st(depth=10 ** 20),
            st(1, (S, S0, S1, S01)), st(1, (Z, P0, S, P0), facts=(NONE,)),
            st(1, (P0, P1, P2, P3), facts=(NONE,) * 4),
            st(1, slots=((P0, P1, 0), (P2, P3, 7)), facts=((True, False), (False, None), (None, True), NONE)),
            st(1, (P0, Z, P0, P1), ((P1, P0, 3), (P2, P2, 0)), (NONE,) * 3),
            st(1, slots=((S, Z, 0), (Z, S0, 41))), st(1, slots=((P0, Z, None), SLOT), facts=(NONE,)))

    def test_what_is_no_tuple_of_five(self):
        self.none(None, True, False, 0, "", "state", b"", [], {}, (), (0,), list(st()), st()[:4], (*st(), None),
                  {0: st()}, (st(),), 1.5)

    def test_places(self):
        self.none(*(st(place) for place in (-1, True, False, None, "0", 0.0, (), (0,), [])))

    def test_kinds(self):
        wrong = (
            None, 0, True, "zero", "secret", "public", (), [], {}, (None,), (0,), (True,), ([],), ({}, 0), (b"zero",),
            ["zero"], ("zero", ()), ("zero", 0), ("Zero",), (("zero",),), ("private", 0), ("other", ()),
            ("secret",), ("secret", None), ("secret", 0), ("secret", [0]), ("secret", (), ()), ("secret", (0, 1, 2)),
            ("secret", (2,)), ("secret", (-1,)), ("secret", (1, 0)), ("secret", (0, 0)), ("secret", (True,)),
            ("secret", (False, True)), ("secret", ("0",)),
            ("public",), ("public", None), ("public", -1), ("public", "0"), ("public", (0,)), ("public", 0, 0),
            ("public", 0.0))
        for kind in wrong:
            for facts in ((), (NONE,)):
                for r in range(4):
                    registers = [Z] * 4
                    registers[r] = kind
                    self.none(st(1, tuple(registers), facts=facts))
                for slot in ((kind, Z, None), (kind, Z, 0), (Z, kind, None), (Z, kind, 0)):
                    self.none(st(1, slots=(slot, SLOT), facts=facts), st(1, slots=(SLOT, slot), facts=facts))

    def test_registers(self):
        self.none(st(1, ()), st(1, (Z,) * 3), st(1, (Z,) * 5), st(1, [Z] * 4), st(1, None), st(1, "zero"), st(1, Z),
                  st(1, 4), st(1, {0: Z, 1: Z, 2: Z, 3: Z}))

    def test_slots(self):
        self.none(*(st(1, slots=slots) for slots in (
            (), (SLOT,), (SLOT,) * 3, list(SLOTS), None, 2, "ab", {}, (Z, Z), (SLOT, None), (None, SLOT), (SLOT, ()),
            (SLOT, (Z, Z)), (SLOT, (Z, Z, None, None)), (SLOT, [Z, Z, None]), (SLOT, (Z, None)), ((Z, None), SLOT),
            ((Z, Z, Z), SLOT), (0, 1))))

    def test_ages(self):
        for age in (-1, True, False, "0", 0.0, (), [], (0,)):
            self.none(st(1, slots=((Z, Z, age), SLOT)), st(1, slots=(SLOT, (S, S, age))))
        # Without an age the old value is zero.
        for old in (S, S01, P0):
            facts = (NONE,) if old == P0 else ()
            self.states(st(1, slots=((Z, old, 0), SLOT), facts=facts))
            self.none(st(1, slots=((Z, old, None), SLOT), facts=facts),
                      st(1, slots=(SLOT, (Z, old, None)), facts=facts))

    def test_facts(self):
        registers = (P0, Z, Z, Z)
        for fact in (0, 1, -1, "", "True", (), [], 0.0, 1.0):
            self.none(st(1, registers, facts=((fact, None),)), st(1, registers, facts=((None, fact),)))
        for fact in (True, False, None):
            self.states(st(1, registers, facts=((fact, None),)), st(1, registers, facts=((None, fact),)))
        for facts in (None, [], [NONE], {}, (), (None,), ((),), ((None,),), ((None, None, None),), ([None, None],),
                      (NONE, NONE), (NONE, None), "ab", 1, True, (NONE,) * 4, ({0: None, 1: None},), ("ab",)):
            self.none(st(1, registers, facts=facts))
        self.none(st(facts=(NONE,)), st(facts=[]), st(facts=None), st(facts={}), st(facts=""), st(facts=0))

    def test_numbering(self):
        facts = (NONE, NONE)
        self.none(
            st(1, (P1, Z, Z, Z), facts=(NONE,)), st(1, (P1, Z, Z, Z), facts=facts),
            st(1, (P1, P0, Z, Z), facts=facts), st(1, (P0, P2, Z, Z), facts=facts),
            st(1, (P0, P2, Z, Z), facts=(NONE,) * 3), st(1, (P0, P1, Z, Z), facts=(NONE,)),
            st(1, (P0, P1, Z, Z), facts=(NONE,) * 3), st(1, (P1, Z, Z, Z), ((P0, Z, None), SLOT), facts),
            st(1, slots=((P1, P0, 0), SLOT), facts=facts), st(1, slots=((P1, Z, None), (P0, Z, None)), facts=facts),
            st(1, slots=((Z, P1, 0), (P0, Z, None)), facts=facts),
            st(1, slots=((P0, Z, 0), (P2, P1, 0)), facts=(NONE,) * 3),
            st(1, (("public", True), Z, Z, Z), facts=(NONE,)), st(1, (P0, ("public", True), Z, Z), facts=facts),
            st(1, (("public", False), Z, Z, Z), facts=(NONE,)), st(1, (("public", 10 ** 9), Z, Z, Z), facts=(NONE,)))
        self.states(
            st(1, (P0, P1, Z, Z), facts=facts), st(1, (P0, P0, Z, P1), facts=facts),
            st(1, (P0, Z, Z, Z), ((P1, Z, None), SLOT), facts), st(1, slots=((P0, P1, 0), SLOT), facts=facts),
            st(1, slots=((Z, P0, 0), (P1, Z, None)), facts=facts))

    def test_depths(self):
        self.none(*(st(depth=depth) for depth in (-1, True, False, "0", 0.0, (), [], (None,))))

    def test_subclasses_are_none(self):
        class Several(tuple):
            pass

        class Number(int):
            pass

        class Text(str):
            pass

        self.none(Several(st()), st(Number(1)), st(1, Several((Z,) * 4)), st(1, (Several(Z), Z, Z, Z)),
                  st(depth=Number(0)), st(1, ((Text("zero"),), Z, Z, Z)), st(1, slots=(SLOT, Several(SLOT))))

    def test_values_that_cannot_be_compared(self):
        class Wild:
            def __eq__(self, other):
                raise KeyError

            __hash__ = None

        wild = Wild()
        for value in (wild, (wild,) * 5, st(wild), st(1, wild), st(1, (wild,) * 4), st(1, ((wild,),) * 4),
                      st(1, (("public", wild), Z, Z, Z)), st(1, (("secret", (wild,)), Z, Z, Z)),
                      st(1, slots=(wild, SLOT)),
                      st(1, slots=((wild, Z, None), SLOT)), st(1, slots=((Z, wild, None), SLOT)),
                      st(1, slots=((Z, (wild,), None), SLOT)), st(1, slots=((Z, Z, wild), SLOT)), st(facts=wild),
                      st(1, (P0, Z, Z, Z), facts=(wild,)), st(1, (P0, Z, Z, Z), facts=((wild, None),)),
                      st(depth=wild)):
            self.assertIs(is_state(value), False)

    def test_deep_values(self):
        value = ()
        for _ in range(20000):
            value = (value,)
        for state in (value, (value,) * 5, st(value), st(1, (value,) * 4), st(1, slots=(value, value)),
                      st(facts=value), st(1, (("secret", value), Z, Z, Z)), st(depth=value)):
            self.assertIs(is_state(state), False)

    def test_each_reached_state(self):
        choices = Choices(4)
        for _ in range(60):
            rows = choices.program(("test", "put", "get", "ask", "mix", "load", "mask", "fence", "jump"), 8)
            window = choices.one_of(WINDOWS)
            state = first_state(rows)
            for _ in range(25):
                self.assertIs(is_state(state), True)
                found = steps(rows, state, window)
                if not found:
                    break
                state = choices.one_of(found)[1]


class MachineTest(StatesCase):
    """States tell what the guessing machine does: two runs that differ in secrets, along the same labels."""

    WORDS = ("test", "test", "put", "put", "put", "get", "get", "get", "ask", "mix", "load", "mask", "mask", "jump",
             "fence")

    def holds(self, kind, one, other, meant, values):
        """The values of the two runs are of the kind."""
        if kind == Z:
            self.assertEqual((one, other), (0, 0))
        elif kind[0] == "public":
            self.assertEqual((one, other), (values.setdefault(kind[1], one),) * 2)
        else:
            for array in kind[1]:
                self.assertTrue(is_in(meant, array, one) and is_in(meant, array, other))

    def check_values(self, state, machines, meant):
        one, other = (machine.state() for machine in machines)
        self.assertEqual((one["place"], other["place"]), (state[0],) * 2)
        values = {}
        for kinds, key in ((state[1], "registers"), ([slot[0] for slot in state[2]], "slots")):
            for kind, here, there in zip(kinds, one[key], other[key]):
                self.holds(kind, here, there, meant, values)
        for number, value in values.items():
            for array, fact in enumerate(state[3][number]):
                self.assertIn(fact, (None, is_in(meant, array, value)))

    def able(self, given, directives):
        """The directives that can be done behind these, but for looks and for guesses of the real way."""
        found = []
        # With the window 0 the machine can open a guess, behind which nothing can be made.
        for directive in (STEP, IN, OUT, STALE) if given[3] > 0 else (STEP, STALE):
            machine = Machine(*given)
            for before in directives:
                machine.direct(before)
            if machine.direct(directive) is not None:
                right = machine.direct(("look",)) if directive in (IN, OUT) else None
                if right is None or right[1][0] == "wrong":
                    found.append(directive)
        return found

    def follow(self, choices):
        """Follows a path of a program; how many steps it was, and by what it opened wrong guesses."""
        made, meant, window = choices.program(self.WORDS, 9), choices.meaning(), choices.number(6)
        # With public inputs at first, tests come out either way.
        rows = program(("ask", 0), ("ask", 1), *made["rows"], secret=made["secret"])
        given = [(rows, meant, choices.secrets(), window) for _ in range(2)]
        machines = [Machine(*one) for one in given]
        state = first_state(rows)
        taken = []
        while len(taken) < 15 and not is_leak(rows, state, window) and rows["rows"][state[0]] != END:
            found = []
            for (directive, fact), behind in steps(rows, state, window):
                if fact is None or fact[1] == is_in(meant, fact[0], self.asked_value(rows, machines[0])):
                    found.append((directive, behind))
            self.assertEqual([directive for directive, _ in found], self.able(given[0], taken))
            if not found:
                break
            # The guesses stand behind the steps, and there are fewer of them.
            directive, state = choices.one_of((*found, found[-1], found[-1]))
            taken.append(directive)
            for machine in machines:
                machine.direct(directive)
            self.check_values(state, machines, meant)
            self.assertEqual(machines[0].view(), machines[1].view())
            opened = [since for _, _, since in machines[0].open_guesses()]
            self.assertEqual(state[4], opened[0] if opened else None)
        return taken

    def asked_value(self, rows, machine):
        now = machine.state()
        row = rows["rows"][now["place"]]
        return now["registers"][row[1] if row[0] == "test" else row[3]]

    def test_paths(self):
        choices = Choices(5)
        taken = []
        for _ in range(1200):
            taken.extend(self.follow(choices))
        for directive in (IN, OUT, STALE):
            self.assertGreater(taken.count(directive), 100)


if __name__ == "__main__":
    unittest.main()
