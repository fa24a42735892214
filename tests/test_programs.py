import copy
import unittest

from guesshush import programs
from guesshush.programs import asked, first_registers, is_in, is_program, loaded
from guesshush.programs import loaded_secret, mixed, with_fences
from tests.helper import meaning, program, secrets

END = ("end",)
FENCE = ("fence",)

# One instruction of each kind, for a program of two places, and behind it
# the first number that is beyond the bounds of each part.
INSTRUCTIONS = (
    (("ask", 3), (4,)),
    (("mix", 3, 2, 1), (4, 4, 4)),
    (("load", 3, 1, 2), (4, 2, 4)),
    (("mask", 3, 1, 2), (4, 2, 4)),
    (("test", 3, 1, 1), (4, 2, 2)),
    (("put", 1, 3), (2, 4)),
    (("get", 3, 1), (4, 2)),
    (FENCE, ()),
    (("jump", 1), (2,)),
    (END, ()),
)


def with_part(row, at, part):
    return row[:at] + (part,) + row[at + 1:]


class Unequal:
    def __eq__(self, other):
        raise RuntimeError("compared")

    def __hash__(self):
        return hash("rows")


class ProgramsTest(unittest.TestCase):
    """Promise [3]: what is a program."""

    def accepts(self, value):
        self.assertIs(is_program(value), True, value)

    def refuses(self, value):
        self.assertIs(is_program(value), False, value)

    def test_bounds(self):
        bounds = (programs.REGISTERS, programs.SLOTS, programs.ARRAYS, programs.MOST_ROWS)
        self.assertEqual(bounds, (4, 2, 2, 32))

    def test_each_instruction(self):
        self.assertEqual(len(INSTRUCTIONS), 10)
        for row, _ in INSTRUCTIONS:
            self.accepts(program(row, END))

    def test_each_part_within_its_bounds(self):
        for row, beyond in INSTRUCTIONS:
            for at, bound in enumerate(beyond, 1):
                for part in range(bound):
                    self.accepts(program(with_part(row, at, part), END))

    def test_each_part_beyond_its_bounds(self):
        for row, beyond in INSTRUCTIONS:
            for at, bound in enumerate(beyond, 1):
                for part in (-1, bound, bound + 1, 10 ** 30):
                    self.refuses(program(with_part(row, at, part), END))

    def test_each_part_of_another_kind(self):
        for row, beyond in INSTRUCTIONS:
            for at in range(1, len(beyond) + 1):
                for part in (True, False, None, "0", "", 0.0, 1.0, (), (0,), [], {}, b"0"):
                    self.refuses(program(with_part(row, at, part), END))

    def test_rows_too_long_or_too_short(self):
        for row, beyond in INSTRUCTIONS:
            self.refuses(program(row + (0,), END))
            self.refuses(program(row + (None,), END))
            self.refuses(program(row[:-1], END))
        self.refuses(program((), END))

    def test_unknown_words(self):
        for word in ("", "Ask", "step", "store", "end ", None, 0, True, b"end", ("end",), ["end"], {}):
            for parts in range(4):
                self.refuses(program((word,) + (0,) * parts, END))

    def test_lists_in_the_place_of_tuples(self):
        for row, _ in INSTRUCTIONS:
            self.refuses(program(list(row), END))
            self.refuses({"secret": (), "rows": [row, END]})
        self.refuses({"secret": [], "rows": (END,)})
        self.refuses({"secret": [0], "rows": (END,)})

    def test_rows_of_another_kind(self):
        for value in (None, True, 0, "", "end", b"end", {}, {0: END}, {END}, 1.5, object()):
            self.refuses({"secret": (), "rows": value})
            self.refuses({"secret": (), "rows": (value, END)})

    def test_the_last_row_is_a_jump_or_an_end(self):
        for row, _ in INSTRUCTIONS:
            self.assertIs(is_program(program(END, row)), row[0] in ("jump", "end"))
        self.accepts(program(("jump", 0)))

    def test_how_many_rows(self):
        self.refuses(program())
        self.accepts(program(END))
        self.accepts(program(*[FENCE] * 31, END))
        self.refuses(program(*[FENCE] * 32, END))
        self.refuses(program(*[END] * 100))

    def test_targets_reach_the_last_of_32_places(self):
        self.accepts(program(("jump", 31), *[FENCE] * 30, END))
        self.refuses(program(("jump", 32), *[FENCE] * 30, END))

    def test_secret_registers(self):
        for secret in ((), (0,), (3,), (0, 3), (1, 2), (0, 1, 2, 3)):
            self.accepts(program(END, secret=secret))
        for secret in ((4,), (-1,), (0, 4), (-1, 0), (10 ** 30,)):
            self.refuses(program(END, secret=secret))

    def test_secret_registers_ascend_each_once(self):
        for secret in ((1, 0), (3, 0), (0, 2, 1), (0, 0), (0, 1, 1), (3, 3, 3)):
            self.refuses(program(END, secret=secret))

    def test_secret_registers_of_another_kind(self):
        for secret in (None, 0, True, "", "0", {}, {0: 1}, {0}, range(2), 1.0, b"\x00"):
            self.refuses(program(END, secret=secret))
        for number in (True, False, None, "0", 0.0, (), [0]):
            self.refuses(program(END, secret=(number,)))
            self.refuses(program(END, secret=(number, 2)))
            self.refuses(program(END, secret=(0, number)))

    def test_keys_too_many_or_missing(self):
        self.refuses({})
        self.refuses({"secret": ()})
        self.refuses({"rows": (END,)})
        self.refuses({"secret": (), "row": (END,)})
        for key in ("more", "", None, 0, True, ("rows",)):
            self.refuses({"secret": (), "rows": (END,), key: ()})
            self.refuses({"secret": (), key: (END,)})
        self.refuses({"secret": (), Unequal(): (END,)})

    def test_values_that_are_no_dict(self):
        rows = (END,)
        for value in (None, True, False, 0, 1, "", "rows", b"", 1.5, (), [], set(), {"secret", "rows"},
                      object(), dict, rows, ((), rows), [("secret", ()), ("rows", rows)], float("nan")):
            self.refuses(value)

    def test_the_value_stays_as_it_was(self):
        value = {"rows": [["ask", True], END], "secret": [1, 0], "more": {}}
        before = copy.deepcopy(value)
        self.refuses(value)
        self.assertEqual(value, before)


class FencesTest(unittest.TestCase):
    """Promise [3] and the interface: programs with fences."""

    def check(self, rows, places, expected):
        self.assertEqual(with_fences(program(*rows, secret=(1,)), places), program(*expected, secret=(1,)))

    def test_the_example(self):
        rows = (("test", 0, 0, 2), ("load", 1, 0, 0), END)
        self.check(rows, [1], (("test", 0, 0, 3), FENCE, ("load", 1, 0, 0), END))

    def test_no_places(self):
        rows = (("test", 0, 0, 2), ("jump", 0), END)
        self.check(rows, [], rows)

    def test_what_leads_to_a_fenced_place_leads_to_its_fence(self):
        rows = (("test", 0, 1, 3), ("ask", 1), ("jump", 3), ("put", 0, 1), END)
        expected = (("test", 0, 1, 3), ("ask", 1), ("jump", 3), FENCE, ("put", 0, 1), END)
        self.check(rows, [3], expected)

    def test_what_leads_backwards(self):
        rows = (("ask", 0), ("mix", 1, 0, 0), ("test", 1, 0, 1), ("jump", 0))
        self.check(rows, [1], (("ask", 0), FENCE, ("mix", 1, 0, 0), ("test", 1, 0, 1), ("jump", 0)))
        self.check(rows, [2], (("ask", 0), ("mix", 1, 0, 0), FENCE, ("test", 1, 0, 1), ("jump", 0)))

    def test_the_place_0(self):
        rows = (("test", 0, 0, 0), ("jump", 1))
        self.check(rows, [0], (FENCE, ("test", 0, 0, 0), ("jump", 2)))

    def test_the_last_place(self):
        rows = (("test", 0, 0, 2), ("jump", 1), END)
        self.check(rows, [2], (("test", 0, 0, 2), ("jump", 1), FENCE, END))

    def test_a_place_that_leads_to_itself(self):
        self.check((("jump", 0),), [0], (FENCE, ("jump", 0)))
        self.check((("ask", 0), ("jump", 1)), [1], (("ask", 0), FENCE, ("jump", 1)))

    def test_all_places(self):
        rows = (("test", 0, 0, 2), ("jump", 0), END)
        self.check(rows, [0, 1, 2], (FENCE, ("test", 0, 0, 4), FENCE, ("jump", 0), FENCE, END))

    def test_the_order_of_the_places_does_not_count(self):
        rows = (("test", 0, 0, 3), ("load", 1, 0, 0), ("jump", 1), END)
        expected = (FENCE, ("test", 0, 0, 5), ("load", 1, 0, 0), FENCE, ("jump", 2), FENCE, END)
        for places in ([0, 2, 3], [3, 2, 0], [2, 0, 3], [3, 0, 2], [0, 3, 2], [2, 3, 0]):
            self.check(rows, places, expected)

    def test_a_fence_in_front_of_a_fence(self):
        self.check((FENCE, ("jump", 0)), [0], (FENCE, FENCE, ("jump", 0)))

    def test_other_instructions_stay(self):
        rows = tuple(row for row, _ in INSTRUCTIONS if row[0] not in ("test", "jump"))
        self.check(rows, [0], (FENCE,) + rows)

    def test_beyond_32_rows(self):
        rows = (("test", 0, 0, 31),) + (("ask", 0),) * 30 + (("jump", 31),)
        fenced = with_fences(program(*rows), list(range(32)))
        expected = (FENCE, ("test", 0, 0, 62)) + (FENCE, ("ask", 0)) * 30 + (FENCE, ("jump", 62))
        self.assertEqual(fenced, program(*expected))
        self.assertEqual(len(fenced["rows"]), 64)

    def test_a_fenced_program_is_a_program_while_it_has_32_rows(self):
        rows = (("test", 0, 0, 15),) * 15 + (END,)
        self.assertIs(is_program(with_fences(program(*rows), list(range(16)))), True)
        self.assertIs(is_program(with_fences(program(FENCE, *rows), list(range(17)))), False)

    def test_places_somewhat_beyond_the_program(self):
        rows = (("jump", 1), END)
        self.check(rows, [2, -1, 40], rows)

    def test_what_is_passed_stays_as_it_was(self):
        passed = program(("test", 0, 0, 2), ("jump", 0), END, secret=(0, 2))
        places = [2, 0]
        before = copy.deepcopy(passed)
        fenced = with_fences(passed, places)
        kept = copy.deepcopy(fenced)
        with_fences(passed, [1])
        with_fences(fenced, [1])
        self.assertEqual((passed, places, fenced), (before, [2, 0], kept))


class MeaningsTest(unittest.TestCase):
    """Promise [4]."""

    def test_is_in(self):
        given = meaning(first=(5, -3), second=(7,))
        self.assertIs(is_in(given, 0, 5), True)
        self.assertIs(is_in(given, 0, -3), True)
        self.assertIs(is_in(given, 0, 7), False)
        self.assertIs(is_in(given, 1, 7), True)
        self.assertIs(is_in(given, 1, 5), False)
        self.assertIs(is_in(given, 1, 10 ** 30), False)

    def test_0_is_in_every_array(self):
        for given in (meaning(), meaning(first=(5,)), meaning(first=(0,), second=(0,))):
            self.assertIs(is_in(given, 0, 0), True)
            self.assertIs(is_in(given, 1, 0), True)
        self.assertIs(is_in({"arrays": ({0: False}, {0: 0})}, 0, 0), True)

    def test_the_values_of_the_keys_do_not_count(self):
        given = {"arrays": ({1: False, 2: None}, {3: 0}), "asked": [], "mixed": [], "loaded": []}
        self.assertIs(is_in(given, 0, 1), True)
        self.assertIs(is_in(given, 0, 2), True)
        self.assertIs(is_in(given, 1, 3), True)
        self.assertIs(is_in(given, 1, 1), False)

    def test_asked(self):
        given = meaning(asked=(4, 0, -6), loaded=(9, 9, 9, 9, 9))
        self.assertEqual([asked(given, k) for k in range(6)], [4, 0, -6, 0, 0, 0])
        self.assertEqual(asked(meaning(), 0), 0)

    def test_mixed(self):
        given = meaning(mixed=({(1, 2): 3, (0, 0): 4}, {}, {(1, 2): 5}))
        self.assertEqual(mixed(given, 0, 1, 2), 3)
        self.assertEqual(mixed(given, 0, 2, 1), 0)
        self.assertEqual(mixed(given, 0, 0, 0), 4)
        self.assertEqual(mixed(given, 1, 1, 2), 0)
        self.assertEqual(mixed(given, 2, 1, 2), 5)
        self.assertEqual(mixed(given, 3, 1, 2), 0)
        self.assertEqual(mixed(given, 9, 0, 0), 0)
        self.assertEqual(mixed(meaning(), 0, 0, 0), 0)

    def test_loaded(self):
        given = meaning(asked=(9, 9, 9, 9, 9), loaded=(4, 0, -6))
        self.assertEqual([loaded(given, k) for k in range(6)], [4, 0, -6, 0, 0, 0])
        self.assertEqual(loaded(meaning(), 0), 0)

    def test_numbers_before_the_first(self):
        given = meaning(asked=(1, 2), mixed=({(0, 0): 3},), loaded=(4, 5))
        self.assertEqual((asked(given, -1), mixed(given, -1, 0, 0), loaded(given, -1)), (0, 0, 0))
        self.assertEqual(loaded_secret(secrets(loaded=(6,)), -1), 0)

    def test_arrays_beyond_the_last(self):
        given = meaning(first=(5,), second=(5,))
        for array in (-1, 2):
            self.assertIs(is_in(given, array, 5), False)
            self.assertIs(is_in(given, array, 0), True)

    def test_the_meaning_stays_as_it_was(self):
        given = meaning(first=(5,), second=(7,), asked=(1,), mixed=({(1, 2): 3},), loaded=(2,))
        before = copy.deepcopy(given)
        for k in range(3):
            is_in(given, 0, k)
            is_in(given, 1, k)
            asked(given, k)
            mixed(given, k, 8, 9)
            loaded(given, k)
        self.assertEqual(given, before)


class SecretsTest(unittest.TestCase):
    """Promise [5]."""

    def test_loaded_secret(self):
        given = secrets(registers=(9, 9, 9, 9, 9), loaded=(4, 0, -6))
        self.assertEqual([loaded_secret(given, k) for k in range(6)], [4, 0, -6, 0, 0, 0])
        self.assertEqual(loaded_secret(secrets(), 0), 0)

    def test_first_registers(self):
        given = secrets(registers=(7, -8), loaded=(5,))
        self.assertEqual(first_registers(program(END, secret=(0, 1)), given), [7, -8, 0, 0])
        self.assertEqual(first_registers(program(END, secret=(1, 3)), given), [0, 7, 0, -8])
        self.assertEqual(first_registers(program(END, secret=(2, 3)), given), [0, 0, 7, -8])

    def test_first_registers_behind_the_end_of_the_list(self):
        given = secrets(registers=(7,))
        self.assertEqual(first_registers(program(END, secret=(1, 2, 3)), given), [0, 7, 0, 0])
        self.assertEqual(first_registers(program(END, secret=(0, 1, 2, 3)), secrets()), [0, 0, 0, 0])

    def test_further_values_do_not_count(self):
        given = secrets(registers=(7, 8, 9))
        self.assertEqual(first_registers(program(END), given), [0, 0, 0, 0])
        self.assertEqual(first_registers(program(END, secret=(2,)), given), [0, 0, 7, 0])
        given = secrets(registers=(1, 2, 3, 4, 5))
        self.assertEqual(first_registers(program(END, secret=(0, 1, 2, 3)), given), [1, 2, 3, 4])

    def test_what_is_passed_stays_as_it_was(self):
        given = secrets(registers=(7, 8, 9), loaded=(4,))
        passed = program(END, secret=(2,))
        before = copy.deepcopy((given, passed))
        registers = first_registers(passed, given)
        registers.append(1)
        self.assertEqual(first_registers(passed, given), [0, 0, 7, 0])
        loaded_secret(given, 5)
        self.assertEqual((given, passed), before)


if __name__ == "__main__":
    unittest.main()
