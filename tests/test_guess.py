import copy
import unittest

from guesshush.errors import NotValid
from guesshush.guess import MOST_WINDOW, Machine, view_of
from guesshush.plain import after_step, first_state, outcome, run
from tests.helper import Choices, meaning, program, secrets, state

STEP = ("step",)
IN = ("guess", "in")
OUT = ("guess", "out")
STALE = ("stale",)
LOOK = ("look",)
DIRECTIVES = (STEP, IN, OUT, STALE, LOOK)
WORDS = ("ask", "mix", "load", "mask", "test", "put", "get", "fence", "jump", "end")

END = ("end",)
ASK = ("ask", 2)
FENCE = ("fence",)
TEST = ("test", 0, 0, 0)

# Values that are no directives.
NO_DIRECTIVES = (
    None, True, 0, 1, "", "step", "look", b"step", (), [], {}, ["step"], ["guess", "in"], {"step": True},
    ("Step",), ("step", 0), ("step", None), ("step", "in"), (STEP,), ("guess",), ("guess", "left"), ("guess", 1),
    ("guess", True), ("guess", None), ("guess", "in", "out"), ("guess", ["in"]), ("guess", ("in",)), ("in",),
    ("stale", 0), ("stale", "in"), ("look", 0), ("look", "in"), ("wrong",), (None,), (0,), ([],), ({},), (b"look",),
)


def machine(window, *rows, registers=(), **meant):
    """A machine whose first registers have these values."""
    secret = tuple(range(len(registers)))
    return Machine(program(*rows, secret=secret), meaning(**meant), secrets(registers, (90, 91, 92)), window)


def shown(given):
    return copy.deepcopy((given.state(), given.open_guesses(), given.view()))


class GuessCase(unittest.TestCase):
    def direct(self, given, *directives):
        """Gives directives of which each can be done; what was seen of them."""
        seen = [given.direct(directive) for directive in directives]
        self.assertNotIn(None, seen)
        return seen

    def refuse(self, given, *directives):
        """None of the directives can be done: nothing changes and nothing is seen."""
        before = shown(given)
        for directive in directives:
            self.assertIsNone(given.direct(directive), directive)
            self.assertEqual(shown(given), before)

    def values(self, given):
        return given.state()["registers"]


class WindowTest(GuessCase):
    """The bounds of the window, by point [10] and the interface."""

    def test_most(self):
        self.assertEqual(MOST_WINDOW, 40)

    def test_windows(self):
        for window in range(41):
            self.assertEqual(view_of(program(END), meaning(), secrets(), window, [STEP]), [(0, None)])

    def test_no_windows(self):
        for window in (-1, 41, 42, 1000, 10 ** 30, -41, True, False, None, "2", 2.0, (), [2]):
            with self.assertRaises(NotValid):
                Machine(program(END), meaning(), secrets(), window)
            with self.assertRaises(NotValid):
                view_of(program(END), meaning(), secrets(), window, [])

    def test_window_0(self):
        given = machine(0, ("put", 0, 0), ("get", 1, 0), ("test", 0, 0, 4), END, END, registers=(7,))
        self.direct(given, STEP)
        self.refuse(given, STALE)
        self.direct(given, STEP)
        # The guess itself is made; then nothing but to look at it.
        self.assertEqual(self.direct(given, IN), [(2, IN)])
        self.refuse(given, STEP, STALE, IN, OUT)
        self.assertEqual(self.direct(given, LOOK), [(2, ("wrong", "out"))])
        self.assertEqual(given.state()["place"], 4)

    def test_window_0_has_no_second_guess(self):
        given = machine(0, TEST, ("test", 0, 0, 0), END)
        self.direct(given, IN)
        self.refuse(given, IN, OUT, STEP)

    def test_window_40(self):
        given = machine(40, ("test", 0, 0, 1), ("jump", 1))
        self.direct(given, IN, *[STEP] * 40)
        self.refuse(given, STEP)
        self.assertEqual(given.open_guesses(), [(0, "in", 40)])

    def test_window_40_for_a_put(self):
        for between, can in ((39, True), (40, False)):
            rows = [("put", 0, 0)] + [ASK] * between + [("get", 1, 0), END]
            given = machine(40, *rows, registers=(7,))
            self.direct(given, *[STEP] * (between + 1))
            if can:
                self.direct(given, STALE)
            else:
                self.refuse(given, STALE)


class DirectiveTest(GuessCase):
    """Point [10]."""

    def test_example(self):
        rows = program(("test", 0, 0, 2), ("load", 2, 0, 1), END, secret=(1,))
        view = [(0, ("guess", "out")), (0, ("wrong", "in"))]
        self.assertEqual(view_of(rows, meaning(), secrets((5,)), 2, [OUT, LOOK]), view)
        given = Machine(rows, meaning(), secrets((5,)), 2)
        self.assertEqual(self.direct(given, OUT, LOOK), view)
        self.assertEqual(given.state(), state(1, (0, 5, 0, 0)))

    def test_first(self):
        given = machine(3, ("mix", 3, 0, 1), END, registers=(7, 8))
        self.assertEqual(given.state(), state(0, (7, 8, 0, 0)))
        self.assertEqual(given.open_guesses(), [])
        self.assertEqual(given.view(), [])

    def test_steps_are_those_of_the_plain_machine(self):
        choices = Choices(1)
        for _ in range(40):
            rows, meant, hidden = choices.program(WORDS, 9), choices.meaning(), choices.secrets()
            behind, view = run(rows, meant, hidden, 12)
            given = Machine(rows, meant, hidden, choices.number(41))
            self.assertEqual([given.direct(STEP) for _ in view], view)
            self.assertEqual(shown(given), (behind, [], view))

    def test_guess(self):
        rows = (ASK, ("test", 2, 1, 3), END, ("load", 0, 1, 2), END)
        for way, place in (("in", 2), ("out", 3)):
            for second in ((), (5,)):
                given = machine(4, *rows, registers=(7, 8), asked=(5,), second=second)
                self.direct(given, STEP)
                self.assertEqual(given.direct(("guess", way)), (1, ("guess", way)))
                self.assertEqual(given.state(), state(place, (7, 8, 5, 0), counts=(1, 0, 0)))
                self.assertEqual(given.open_guesses(), [(1, way, 0)])
                self.assertEqual(given.view(), [(0, None), (1, ("guess", way))])

    def test_stale(self):
        rows = (("put", 1, 0), ("put", 1, 1), ("get", 2, 1), ASK, END)
        given = machine(4, *rows, registers=(7, 8))
        self.direct(given, STEP, STEP)
        self.assertEqual(given.direct(STALE), (2, ("stale",)))
        self.assertEqual(given.state(), state(3, (7, 8, 7, 0), (0, 8)))
        self.assertEqual(given.open_guesses(), [(2, "stale", 0)])
        self.assertEqual(given.view(), [(0, None), (1, None), (2, ("stale",))])

    def test_stale_of_the_first_put(self):
        given = machine(4, ("put", 0, 0), ("get", 0, 0), END, registers=(7,))
        self.direct(given, STEP, STALE)
        self.assertEqual(given.state(), state(2, slots=(7, 0)))

    def test_stale_takes_the_slot_of_the_get(self):
        rows = (("put", 0, 0), ("put", 1, 1), ("put", 0, 1), ("put", 1, 0), ("get", 2, 0), ("get", 3, 1), END)
        given = machine(9, *rows, registers=(7, 8))
        self.direct(given, STEP, STEP, STEP, STEP, STALE, STALE)
        self.assertEqual(self.values(given), (7, 8, 7, 8))

    def test_steps_behind_a_guess(self):
        rows = (("test", 0, 0, 3), ("load", 1, 1, 0), END, ("put", 0, 0), ("load", 1, 1, 0), ("load", 1, 1, 1), END)
        given = machine(9, *rows, registers=(4,), first=(4,), loaded=(50, 51))
        seen = self.direct(given, OUT, STEP, STEP, STEP)
        self.assertEqual(seen[1:], [(3, None), (4, ("at", 1, 4)), (5, ("at", 1, 90))])
        self.assertEqual(given.state(), state(6, (4, 91, 0, 0), (4, 0), (0, 0, 2)))

    def test_no_directives(self):
        rows = program(("put", 0, 0), ("test", 0, 0, 0), END)
        for value in NO_DIRECTIVES:
            given = Machine(rows, meaning(), secrets(), 5)
            self.direct(given, STEP, IN)
            before = shown(given)
            with self.assertRaises(NotValid):
                given.direct(value)
            self.assertEqual(shown(given), before)
            with self.assertRaises(NotValid):
                view_of(rows, meaning(), secrets(), 5, [STEP, value])

    def test_no_directives_of_other_kinds(self):
        class Several(tuple):
            pass

        class Text(str):
            pass

        class Wild:
            def __eq__(self, other):
                raise KeyError

            __hash__ = None

        given = machine(5, TEST, END)
        for value in (Several(STEP), (Text("step"),), ("guess", Text("in")), Wild(), (Wild(),), ("guess", Wild())):
            with self.assertRaises(NotValid):
                given.direct(value)

    def test_numbers_beyond_the_limits(self):
        rows = (("put", 2, 4), ("get", 4, 2), ("test", 4, 2, 3), ("load", 0, 2, 4), END)
        given = machine(5, *rows, registers=(7,), loaded=(6,))
        self.direct(given, STEP)
        self.refuse(given, STALE)
        self.assertEqual(self.direct(given, STEP, OUT, LOOK, STEP)[2:], [(2, ("wrong", "in")), (3, ("at", 2, 0))])
        self.assertEqual(given.state(), state(4, (6, 0, 0, 0), counts=(0, 0, 1)))

    def test_no_directives_behind_an_end(self):
        given = machine(5, END)
        self.direct(given, STEP)
        with self.assertRaises(NotValid):
            given.direct(("steps",))


class LookTest(GuessCase):
    """Point [11]."""

    def test_right(self):
        for value, way, place in ((0, "in", 2), (5, "out", 3)):
            given = machine(5, ("jump", 1), ("test", 0, 0, 3), ASK, ("put", 0, 0), END, registers=(value,))
            self.direct(given, STEP, ("guess", way))
            before = given.state()
            self.assertEqual(given.direct(LOOK), (1, ("right", way)))
            self.assertEqual(given.state(), before)
            self.assertEqual(before["place"], place)
            self.assertEqual(given.open_guesses(), [])

    def test_right_goes_on(self):
        given = machine(5, ("test", 0, 0, 0), ("put", 0, 0), ASK, END, registers=(0, 7), asked=(3,))
        self.direct(given, IN, STEP, STEP)
        before = given.state()
        self.assertEqual(given.direct(LOOK), (0, ("right", "in")))
        self.assertEqual(given.state(), before)
        self.assertEqual(self.direct(given, STEP), [(3, None)])

    def test_wrong(self):
        for value, way, real, place in ((5, "in", "out", 3), (0, "out", "in", 2)):
            given = machine(5, ("jump", 1), ("test", 0, 0, 3), ASK, ASK, END, registers=(value,), asked=(6, 7))
            self.direct(given, STEP, ("guess", way), STEP)
            self.assertEqual(given.direct(LOOK), (1, ("wrong", real)))
            self.assertEqual(given.state(), state(place, (value, 0, 0, 0)))
            self.assertEqual(given.open_guesses(), [])
            # The test that is made again is not seen beside the look.
            self.assertEqual(given.view()[2:], [(2 if way == "in" else 3, None), (1, ("wrong", real))])

    def test_the_state_from_before_the_guess_tells(self):
        # Behind the guess the register changes, so that the test would come out differently.
        given = machine(5, ("test", 0, 0, 2), ("ask", 0), ("ask", 0), END, asked=(9,))
        self.direct(given, IN, STEP)
        self.assertEqual(given.direct(LOOK), (0, ("right", "in")))
        self.assertEqual(self.values(given), (9, 0, 0, 0))
        given = machine(5, ("test", 0, 0, 2), ("ask", 0), ("ask", 0), END, asked=(9,))
        self.direct(given, OUT, STEP)
        self.assertEqual(given.direct(LOOK), (0, ("wrong", "in")))

    def test_a_stale_get_is_always_wrong(self):
        # Also if the value before is the same.
        for value in (7, 0):
            given = machine(5, ("put", 0, 0), ("get", 1, 0), ASK, END, registers=(value,), asked=(3,))
            self.direct(given, STEP, STALE, STEP)
            self.assertEqual(given.direct(LOOK), (1, ("wrong", "stale")))
            self.assertEqual(given.state(), state(2, (value, value, 0, 0), (value, 0)))
            self.assertEqual(given.open_guesses(), [])
            self.assertEqual(given.view(), [(0, None), (1, ("stale",)), (2, None), (1, ("wrong", "stale"))])

    def test_the_youngest_is_looked_at(self):
        rows = (("put", 0, 0), ("test", 0, 0, 0), ("get", 1, 0), ("test", 1, 0, 0), ASK, END)
        given = machine(9, *rows, registers=(7,))
        self.direct(given, STEP, IN, STALE, IN, STEP)
        self.assertEqual(given.open_guesses(), [(1, "in", 3), (2, "stale", 2), (3, "in", 1)])
        # By the stale value 0 the guess of the second test is right.
        self.assertEqual(given.direct(LOOK), (3, ("right", "in")))
        self.assertEqual(given.open_guesses(), [(1, "in", 3), (2, "stale", 2)])
        self.assertEqual(given.direct(LOOK), (2, ("wrong", "stale")))
        self.assertEqual(given.open_guesses(), [(1, "in", 1)])
        self.assertEqual(given.state(), state(3, (7, 7, 0, 0), (7, 0)))
        self.assertEqual(given.direct(LOOK), (1, ("wrong", "out")))
        self.assertEqual(given.state(), state(0, (7, 0, 0, 0), (7, 0)))

    def test_a_wrong_elder_guess_takes_back_the_younger_look(self):
        rows = (("test", 0, 0, 3), ("test", 1, 0, 3), ASK, END)
        given = machine(9, *rows, registers=(7, 8), asked=(5,))
        self.direct(given, IN, IN, STEP)
        self.assertEqual(given.direct(LOOK), (1, ("wrong", "out")))
        self.assertEqual(given.state()["place"], 3)
        self.assertEqual(given.open_guesses(), [(0, "in", 1)])
        self.assertEqual(given.direct(LOOK), (0, ("wrong", "out")))
        self.assertEqual(shown(given)[:2], (state(3, (7, 8, 0, 0)), []))
        self.assertEqual(given.view(), [(0, IN), (1, IN), (2, None), (1, ("wrong", "out")), (0, ("wrong", "out"))])

    def test_counts_are_taken_back(self):
        rows = (("test", 0, 0, 1), ASK, ("mix", 3, 0, 2), ("load", 3, 0, 0), ("jump", 5), ASK, END)
        given = machine(9, *rows, registers=(0, 7), asked=(5, 6), mixed=({(0, 5): 8}, {(0, 5): 9}), loaded=(1, 2))
        self.direct(given, OUT, STEP, STEP, STEP)
        self.assertEqual(given.state()["counts"], (1, 1, 1))
        self.direct(given, LOOK)
        self.assertEqual(given.state(), state(1, (0, 7, 0, 0)))
        self.direct(given, STEP, STEP)
        self.assertEqual(given.state(), state(3, (0, 7, 5, 8), counts=(1, 1, 0)))


class RefusedTest(GuessCase):
    """Point [12]: what cannot be done, case by case."""

    def test_behind_an_end(self):
        given = machine(5, END)
        self.direct(given, STEP)
        self.assertIsNone(given.state()["place"])
        self.refuse(given, *DIRECTIVES)

    def test_a_guess_is_only_at_a_test(self):
        for row in (ASK, ("mix", 0, 1, 2), ("load", 0, 0, 1), ("mask", 0, 0, 1), ("put", 0, 0), ("get", 0, 0), FENCE,
                    ("jump", 0), END):
            self.refuse(machine(5, row, END), IN, OUT)

    def test_a_stale_is_only_at_a_get(self):
        for row in (ASK, ("mix", 0, 1, 2), ("load", 0, 0, 1), ("mask", 0, 0, 1), ("put", 0, 0), TEST, FENCE,
                    ("jump", 0), END):
            given = machine(5, ("put", 0, 0), ("put", 1, 0), row, END)
            self.direct(given, STEP, STEP)
            self.refuse(given, STALE)

    def test_a_stale_only_if_the_slot_was_put(self):
        self.refuse(machine(5, ("get", 0, 0), END), STALE)
        for s in (0, 1):
            given = machine(5, ("put", s, 0), ("get", 0, 1 - s), ("get", 0, s), END)
            self.direct(given, STEP)
            self.refuse(given, STALE)
            self.direct(given, STEP, STALE)

    def test_no_stale_behind_a_fence(self):
        given = machine(9, ("put", 0, 0), ("put", 1, 0), FENCE, ("get", 0, 0), ("get", 0, 1), ("put", 0, 1),
                        ("get", 0, 1), ("get", 0, 0), END)
        self.direct(given, STEP, STEP, STEP)
        self.refuse(given, STALE)
        self.direct(given, STEP)
        self.refuse(given, STALE)
        self.direct(given, STEP, STEP)
        self.refuse(given, STALE)
        # The slot that was put behind the fence has a value before.
        self.direct(given, STEP, STALE)

    def test_a_stale_only_within_the_window(self):
        for window in range(1, 5):
            for between in range(6):
                rows = [("put", 0, 0)] + [ASK] * between + [("get", 1, 0), END]
                given = machine(window, *rows)
                self.direct(given, *[STEP] * (between + 1))
                if between < window:
                    self.direct(given, STALE)
                else:
                    self.refuse(given, STALE)

    def test_no_fence_and_no_end_while_a_guess_is_open(self):
        for row in (FENCE, END):
            given = machine(9, ("put", 0, 0), ("test", 0, 0, 2), row, ("get", 1, 0), row, END)
            self.direct(given, STEP, IN)
            self.refuse(given, STEP)
            self.direct(given, LOOK, STEP)
            if row == FENCE:
                self.assertEqual(given.state()["place"], 3)
        given = machine(9, ("put", 0, 0), ("get", 1, 0), FENCE, END)
        self.direct(given, STEP, STALE)
        self.refuse(given, STEP)
        self.direct(given, LOOK, STEP, STEP)
        self.assertIsNone(given.state()["place"])

    def test_nothing_behind_the_window_but_to_look(self):
        loop = (("put", 0, 0), ("test", 0, 0, 0), ("get", 1, 0), ("test", 0, 0, 0), ("put", 0, 0), ("jump", 2))
        for window, barred in ((1, (STALE, STEP)), (2, (IN, OUT, STEP)), (3, (STEP,)), (4, (STEP,)),
                               (5, (STALE, STEP))):
            given = machine(window, *loop)
            self.direct(given, STEP, IN)
            self.direct(given, *[STEP] * (window - 1))
            if window > 1:
                self.assertEqual(given.open_guesses(), [(1, "in", window - 1)])
            self.direct(given, STEP)
            self.refuse(given, *barred)
            self.direct(given, LOOK)

    def test_each_directive_at_the_bound(self):
        rows = (("put", 0, 0), ("test", 0, 0, 2), ("test", 0, 0, 3), ("get", 1, 0), END)
        for window, first in ((1, IN), (1, STEP)):
            given = machine(window, *rows)
            self.direct(given, STEP, IN, first)
            self.refuse(given, STEP, STALE)
        rows = (("test", 0, 0, 1), ("put", 0, 0), ("get", 1, 0), END)
        given = machine(1, *rows)
        self.direct(given, IN, STEP)
        # The put was made just now, but no more instruction behind the opening of the guess.
        self.refuse(given, STALE, STEP)
        given = machine(2, *rows)
        self.direct(given, IN, STEP, STALE)
        self.assertEqual(given.open_guesses(), [(0, "in", 2), (2, "stale", 0)])

    def test_the_guess_that_opens_a_further_guess_counts(self):
        given = machine(2, TEST, ("test", 0, 0, 1), ("test", 0, 0, 1), ASK, END)
        self.direct(given, IN, IN, IN)
        self.assertEqual(given.open_guesses(), [(0, "in", 2), (1, "in", 1), (2, "in", 0)])
        # The younger ones have room, but not the eldest.
        self.refuse(given, STEP)
        self.direct(given, LOOK)
        self.refuse(given, STEP)
        self.direct(given, LOOK)
        self.refuse(given, STEP)
        self.direct(given, LOOK, STEP)

    def test_no_look_without_an_open_guess(self):
        given = machine(5, ("test", 0, 0, 0), ASK, END)
        self.refuse(given, LOOK)
        self.direct(given, IN, LOOK)
        self.refuse(given, LOOK)
        self.direct(given, STEP)
        self.refuse(given, LOOK)

    def test_view_of_leaves_out_what_cannot_be_done(self):
        rows = program(("put", 0, 0), ("test", 0, 0, 0), END)
        directives = [LOOK, IN, STEP, STALE, OUT, LOOK, LOOK, STEP, STEP]
        view = [(0, None), (1, OUT), (1, ("wrong", "in")), (2, None)]
        self.assertEqual(view_of(rows, meaning(), secrets(), 3, directives), view)
        self.assertEqual(view_of(rows, meaning(), secrets(), 3, []), [])


class NotedTest(GuessCase):
    """Point [13], seen by which stale gets can be done, and with which value."""

    def test_a_put_counts_for_the_other_slot_alone(self):
        rows = (("put", 0, 0), ("put", 1, 0), ("get", 2, 0), ("get", 2, 1), END)
        given = machine(1, *rows, registers=(7,))
        self.direct(given, STEP, STEP)
        self.refuse(given, STALE)
        given = machine(2, *rows, registers=(7,))
        self.direct(given, STEP, STEP, STALE)
        rows = (("put", 0, 0), ("put", 1, 0), ("get", 2, 1), END)
        given = machine(1, *rows, registers=(7,))
        self.direct(given, STEP, STEP, STALE)

    def test_a_put_notes_anew(self):
        rows = (("put", 0, 0), ASK, ("put", 0, 1), ("get", 2, 0), END)
        given = machine(1, *rows, registers=(7, 8))
        self.direct(given, STEP, STEP, STEP, STALE)
        self.assertEqual(self.values(given), (7, 8, 7, 0))

    def test_each_instruction_counts(self):
        for row in (ASK, ("mix", 3, 1, 2), ("load", 3, 0, 1), ("mask", 3, 0, 1), ("test", 0, 0, 2), ("put", 1, 0),
                    ("get", 3, 1), ("get", 3, 0), ("jump", 2)):
            given = machine(1, ("put", 0, 0), row, ("get", 2, 0), END)
            self.direct(given, STEP, STEP)
            self.refuse(given, STALE)
            given = machine(2, ("put", 0, 0), row, ("get", 2, 0), END)
            self.direct(given, STEP, STEP, STALE)

    def test_a_guess_counts(self):
        for window, can in ((1, False), (2, True)):
            for look in ((), (LOOK,)):
                # A look counts nothing, if the guess is right.
                given = machine(window, ("put", 0, 0), ("test", 0, 0, 2), ("get", 1, 0), END)
                self.direct(given, STEP, IN, *look)
                if can:
                    self.direct(given, STALE)
                else:
                    self.refuse(given, STALE)

    def test_a_stale_get_counts(self):
        for window, can in ((1, False), (2, True)):
            given = machine(window, ("put", 0, 0), ("get", 1, 0), ("get", 2, 0), END)
            self.direct(given, STEP, STALE)
            if can:
                self.direct(given, STALE)
            else:
                self.refuse(given, STALE)

    def test_going_back_takes_back_the_counting(self):
        # Behind going back the put is one instruction ago: the test that was made again.
        rows = (("put", 0, 0), ("test", 0, 0, 4), ASK, ASK, ("get", 1, 0), END)
        for window, can in ((1, False), (2, True)):
            given = machine(window, *rows, registers=(7,))
            self.direct(given, STEP, IN, *[STEP] * window)
            self.direct(given, LOOK)
            self.assertEqual(given.state()["place"], 4)
            if can:
                self.direct(given, STALE)
            else:
                self.refuse(given, STALE)

    def test_going_back_from_a_stale_get_counts_the_get(self):
        rows = (("put", 0, 0), ("get", 1, 0), ("get", 2, 0), END)
        for window, can in ((1, False), (2, True)):
            given = machine(window, *rows, registers=(7,))
            self.direct(given, STEP, STALE, LOOK)
            if can:
                self.direct(given, STALE)
                self.assertEqual(self.values(given), (7, 7, 0, 0))
            else:
                self.refuse(given, STALE)

    def test_going_back_takes_back_a_put(self):
        rows = (("put", 0, 0), ("put", 0, 1), ("test", 0, 0, 5), ("put", 0, 2), ("put", 1, 2), ("get", 3, 0),
                ("get", 3, 1), END)
        given = machine(9, *rows, registers=(7, 8, 9))
        self.direct(given, STEP, STEP, IN, STEP, STEP)
        self.assertEqual(given.state()["slots"], (9, 9))
        self.direct(given, LOOK)
        self.assertEqual(given.state(), state(5, (7, 8, 9, 0), (8, 0)))
        self.direct(given, STALE)
        # What was noted is the put before the guess, with the value before it.
        self.assertEqual(self.values(given), (7, 8, 9, 7))
        self.refuse(given, STALE)

    def test_a_put_behind_a_guess_that_is_right_stays(self):
        given = machine(9, ("test", 0, 0, 0), ("put", 0, 1), ("get", 2, 0), END, registers=(0, 8))
        self.direct(given, IN, STEP, LOOK, STALE)
        self.assertEqual(given.state(), state(3, (0, 8, 0, 0), (8, 0)))

    def test_elder_guesses_count_what_is_made_again(self):
        rows = (("test", 0, 0, 0), ("test", 0, 0, 4), ASK, ASK, ASK, ASK, END)
        given = machine(4, *rows, registers=(7,))
        self.direct(given, IN, IN, STEP, STEP)
        self.assertEqual(given.open_guesses(), [(0, "in", 3), (1, "in", 2)])
        self.direct(given, LOOK)
        self.assertEqual(given.open_guesses(), [(0, "in", 1)])
        self.direct(given, STEP, STEP)
        given = machine(2, *rows, registers=(7,))
        self.direct(given, IN, IN, LOOK, STEP)
        self.refuse(given, STEP)

    def test_a_right_guess_stays_counted(self):
        rows = (("test", 0, 0, 0), ("test", 0, 0, 4), ASK, ASK, ASK, ASK, END)
        given = machine(3, *rows)
        self.direct(given, IN, IN, STEP, LOOK)
        self.assertEqual(given.open_guesses(), [(0, "in", 2)])
        self.direct(given, STEP)
        self.refuse(given, STEP)

    def test_a_fence_behind_going_back(self):
        rows = (("put", 0, 0), ("test", 0, 0, 2), FENCE, ("get", 1, 0), END)
        given = machine(9, *rows)
        self.direct(given, STEP, OUT, LOOK, STEP)
        self.refuse(given, STALE)


class ReturnedTest(GuessCase):
    """Points [1] and [2]: nothing that is passed is changed, nothing that was returned changes later."""

    ROWS = (("put", 0, 0), ("test", 0, 0, 4), ("get", 1, 0), ("jump", 1), ASK, END)

    def test_nothing_passed_is_changed(self):
        passed = (program(*self.ROWS, secret=(0,)), meaning(first=(7,), asked=(1,)), secrets((7,), (9,)), 9,
                  [STEP, IN, STALE, STEP, OUT, LOOK, LOOK, STEP, STEP, STEP])
        kept = copy.deepcopy(passed)
        view_of(*passed)
        self.assertEqual(passed, kept)

    def test_nothing_returned_changes(self):
        given = machine(9, *self.ROWS, registers=(7,), first=(7,))
        returned, kept = [], []
        for directive in (STEP, IN, STALE, STEP, OUT, LOOK, LOOK, LOOK, STEP, IN):
            given.direct(directive)
            returned.append((given.state(), given.open_guesses(), given.view()))
            kept.append(shown(given))
        self.assertEqual(returned, kept)

    def test_what_is_returned_belongs_to_the_caller(self):
        given = machine(9, *self.ROWS, registers=(7,), first=(7,))
        self.direct(given, STEP, IN)
        before = shown(given)
        given.state()["place"] = 5
        given.open_guesses().clear()
        given.view().clear()
        self.assertEqual(shown(given), before)

    def test_kinds(self):
        given = machine(9, *self.ROWS, registers=(7,), first=(7,))
        seen = self.direct(given, STEP, IN, STALE, LOOK)
        self.assertEqual({type(what) for what in seen}, {tuple})
        self.assertEqual(sorted(given.state()), ["counts", "place", "registers", "slots"])
        self.assertIs(type(given.open_guesses()), list)
        self.assertEqual({type(told) for told in given.open_guesses()}, {tuple})
        self.assertIs(type(given.view()), list)
        view = view_of(program(END), meaning(), secrets(), 0, [STEP])
        self.assertIs(type(view), list)

    def test_machines_are_apart(self):
        rows, meant, hidden = program(*self.ROWS), meaning(), secrets()
        one, other = Machine(rows, meant, hidden, 5), Machine(rows, meant, hidden, 5)
        one.direct(STEP)
        self.assertEqual(shown(other), (state(0), [], []))


class Trail:
    """Another guessing machine: it keeps what was made as a list, and works out all else from it."""

    def __init__(self, *given):
        self.program, self.meaning, self.secrets, self.window = given
        self.made = []
        self.opened = []

    def states(self):
        """The states before each of what was made, and the one behind."""
        found = [first_state(self.program, self.secrets)]
        for at, (directive, place) in enumerate(self.made):
            now = found[-1]
            row = self.program["rows"][place]
            behind, _ = after_step(self.program, self.meaning, self.secrets, now)
            if directive[0] == "guess":
                behind["place"] = place + 1 if directive[1] == "in" else row[3]
            if directive == STALE:
                registers = list(now["registers"])
                registers[row[1]] = self.noted(row[2], at, found)[0]
                behind["registers"] = tuple(registers)
            found.append(behind)
        return found

    def noted(self, s, end, states):
        """The value before the last put before the end, and how many were made since."""
        for at in range(end - 1, -1, -1):
            row = self.program["rows"][self.made[at][1]]
            if row == FENCE:
                return None
            if row[:2] == ("put", s):
                return states[at]["slots"][s], end - 1 - at
        return None

    def can(self, directive, now, states):
        if directive == LOOK:
            return bool(self.opened)
        if now["place"] is None or any(len(self.made) - 1 - at >= self.window for at in self.opened):
            return False
        row = self.program["rows"][now["place"]]
        if directive == STEP:
            return not (self.opened and row in (FENCE, END))
        if directive == STALE:
            note = self.noted(row[2], len(self.made), states) if row[0] == "get" else None
            return note is not None and note[1] < self.window
        return row[0] == "test"

    def able(self):
        states = self.states()
        return [directive for directive in DIRECTIVES if self.can(directive, states[-1], states)]

    def look(self, states):
        at = self.opened.pop()
        directive, place = self.made[at]
        real = "stale" if directive == STALE else outcome(self.program, self.meaning, states[at])
        if directive[-1] == real and directive != STALE:
            return place, ("right", real)
        self.made[at:] = [(STEP, place)]
        return place, ("wrong", real)

    def direct(self, directive):
        states = self.states()
        now = states[-1]
        if not self.can(directive, now, states):
            return None
        if directive == LOOK:
            return self.look(states)
        if directive != STEP:
            self.opened.append(len(self.made))
        self.made.append((directive, now["place"]))
        if directive != STEP:
            return now["place"], directive
        return after_step(self.program, self.meaning, self.secrets, now)[1]

    def shown(self):
        opened = [(self.made[at][1], self.made[at][0][-1], len(self.made) - 1 - at) for at in self.opened]
        return self.states()[-1], opened


class TrailTest(GuessCase):
    """Points [9] to [13] on many programs, against a machine that is written in another way."""

    MANY_GUESSES = ("test", "test", "test", "put", "put", "put", "get", "get", "get", "ask", "mix", "load", "mask")

    def test_all(self):
        choices = Choices(2)
        done = {directive: 0 for directive in DIRECTIVES}
        for k in range(800):
            words = self.MANY_GUESSES if k % 2 else WORDS
            given = (choices.program(words, 10), choices.meaning(), choices.secrets(), choices.number(9))
            one, other = Machine(*given), Trail(*given)
            view = []
            for _ in range(25):
                directive = choices.one_of([*DIRECTIVES, *other.able() * 5])
                seen = other.direct(directive)
                self.assertEqual(one.direct(directive), seen)
                self.assertEqual((one.state(), one.open_guesses()), other.shown())
                if seen is not None:
                    done[directive] += 1
                    view.append(seen)
            self.assertEqual(one.view(), view)
        self.assertGreater(min(done.values()), 100)


if __name__ == "__main__":
    unittest.main()
