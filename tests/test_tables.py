import copy
import unittest
from unittest import mock

from guesshush import tables
from guesshush.errors import NotValid
from guesshush.states import first_state, is_leak, is_state, steps
from guesshush.tables import MOST_STATES, follow, is_accepted, judge_table, least_window, search
from tests.helper import (
    GUESSED, GUESSED_PATH, IN, MANY, MASKED, NO_WINDOWS, OTHER_VALUES, OUT, PUT, PUT_PATH, STALE, STEP, TESTED,
    TESTED_PATH, Choices, Wild, deep, program)

Z = ("zero",)
S = ("secret", ())
P0, P1 = ("public", 0), ("public", 1)

# Facts of one public value.
NONE = (None, None)

END = ("end",)
SLOT = (Z, Z, None)
SLOTS = (SLOT, SLOT)

WINDOWS = (0, 1, 2, 3, 5, 8, 40, 41, 1000, None)

# With the bound w this has w + 2 states: the first one, and at the place 1 the ages 0 to w - 1 and None.
AGEING = program(("put", 0, 0), ("jump", 1))


def st(place, registers=(Z, Z, Z, Z), slots=SLOTS, facts=(), depth=None):
    return (place, registers, slots, facts, depth)


def late(pads):
    """A program of which, with the bound 0, a leak is met behind 596 + pads states."""
    rows = [("jump", place + 1) for place in range(pads)]
    for r, arrays in ((0, 2), (1, 2), (2, 2), (None, 0), (0, 1), (0, 2)):
        if r is None:
            rows.append(("put", 0, 0))
            continue
        rows.append(("ask", r))
        for array in range(arrays):
            rows.append(("test", r, array, len(rows) + 1))
    return program(*rows, ("load", 0, 0, 3), END, secret=(3,))


def met_states(given, window):
    """All states in the order in which they are met, each with its path, the leak last."""
    first = first_state(given)
    met = [(first, [])]
    level = met
    while level and not is_leak(given, met[-1][0], window):
        further = []
        for state, path in level:
            for label, behind in steps(given, state, window):
                if behind in [known for known, _ in met]:
                    continue
                met.append((behind, [*path, label]))
                further.append(met[-1])
                if is_leak(given, behind, window) or len(met) > MOST_STATES:
                    return met
        level = further
    return met


class TablesCase(unittest.TestCase):
    def search(self, given, window):
        """What is found; what was passed stays as it was, and a second search finds the same."""
        kept = copy.deepcopy(given)
        found = search(given, window)
        self.assertEqual(given, kept)
        self.assertEqual((type(found), len(found)), (tuple, 2))
        self.assertEqual(repr(search(given, window)), repr(found))
        accepted = {"table": True, "leak": False, "many": None}[found[0]]
        self.assertIs(is_accepted(given, window), accepted)
        return found

    def table(self, given, window=None):
        word, table = self.search(given, window)
        self.assertEqual(word, "table")
        self.assertIs(type(table), list)
        return table

    def judge(self, given, window, table):
        told = judge_table(given, window, table)
        self.assertIs(type(told), bool)
        return told


class SearchTest(TablesCase):
    """Points [23] and [24]."""

    def test_most(self):
        self.assertEqual(MOST_STATES, 600)

    def test_only_an_end(self):
        for window in WINDOWS:
            self.assertEqual(self.search(program(END), window), ("table", [st(0)]))

    def test_a_table(self):
        given = program(("ask", 0), ("mask", 1, 0, 0), ("load", 2, 0, 1), END, secret=(3,))
        asked = (P0, Z, Z, S)
        found = [
            st(0, (Z, Z, Z, S)),
            st(1, asked, facts=(NONE,)),
            st(2, asked, facts=((False, None),)),
            st(2, (P0, P0, Z, S), facts=((True, None),)),
            st(3, (P0, P0, P1, S), facts=((True, None), NONE)),
            st(3, (P0, Z, P1, S), facts=((False, None), NONE)),
        ]
        self.assertEqual(self.table(given), sorted(found, key=repr))
        self.assertEqual(sorted(found, key=repr)[2][1], (P0, P0, Z, S))

    def test_a_table_is_ordered_by_texts(self):
        # As a text, 10 stands before 2.
        rows = [("jump", place + 1) for place in range(11)]
        table = self.table(program(*rows, END))
        self.assertEqual([state[0] for state in table], [0, 1, 10, 11, 2, 3, 4, 5, 6, 7, 8, 9])

    def test_a_table_with_guesses(self):
        given = program(("ask", 0), ("test", 0, 0, 2), END)
        here = (P0, Z, Z, Z)
        for window, depths in ((None, (None, 0)), (1, (None, 0)), (0, (None,))):
            found = [st(0), st(1, here, facts=(NONE,))]
            found += [st(2, here, facts=((fact, None),), depth=depth) for fact in (True, False) for depth in depths]
            self.assertEqual(self.table(given, window), sorted(found, key=repr))

    def test_paths(self):
        for given, path, least in ((GUESSED, GUESSED_PATH, 2), (PUT, PUT_PATH, 1), (TESTED, TESTED_PATH, 0)):
            for window in WINDOWS:
                if window is None or window >= least:
                    self.assertEqual(self.search(given, window), ("leak", path))
                else:
                    self.assertEqual(self.search(given, window)[0], "table")

    def test_the_path_is_a_list_of_labels(self):
        path = search(GUESSED, None)[1]
        self.assertIs(type(path), list)
        self.assertEqual(repr(path), repr(GUESSED_PATH))

    def test_an_empty_path(self):
        for row in (("load", 0, 0, 1), ("test", 1, 1, 0)):
            for window in WINDOWS:
                self.assertEqual(self.search(program(row, END, secret=(1,)), window), ("leak", []))

    def test_the_leak_that_is_met_first(self):
        # Both leaks are on the same level: True stands before False, the step before the guess.
        given = program(("ask", 0), ("test", 0, 0, 3), ("load", 1, 0, 3), ("load", 1, 1, 3), END, secret=(3,))
        for window in WINDOWS:
            self.assertEqual(self.search(given, window), ("leak", [(STEP, None), (STEP, (0, True))]))
        # The leak at the place 2 is met behind that at the place 4, which is nearer.
        given = program(
            ("ask", 0), ("test", 0, 0, 4), ("jump", 3), ("load", 1, 1, 3), ("load", 1, 1, 3), END, secret=(3,))
        self.assertEqual(self.search(given, 0), ("leak", [(STEP, None), (STEP, (0, False))]))
        self.assertEqual(self.search(given, 1), ("leak", [(STEP, None), (OUT, (0, True))]))

    def test_the_way_by_which_it_was_met_first(self):
        # A fact that does not count any more: both ways lead to the same state.
        given = program(("ask", 0), ("test", 0, 0, 2), ("ask", 0), ("load", 1, 0, 3), END, secret=(3,))
        path = [(STEP, None), (STEP, (0, True)), (STEP, None)]
        for window in WINDOWS:
            self.assertEqual(self.search(given, window), ("leak", path))

    def test_exactly_as_many_states(self):
        self.assertEqual(len(self.table(AGEING, 597)), 599)
        self.assertEqual(len(self.table(AGEING, 598)), 600)
        for window in (599, 600, 2000):
            self.assertEqual(self.search(AGEING, window), ("many", ()))
        self.assertEqual(len(self.table(AGEING)), 2)

    def test_the_leak_is_counted(self):
        for pads in (2, 3):
            self.assertEqual(len(met_states(late(pads), 0)), 597 + pads)
            word, path = self.search(late(pads), 0)
            self.assertEqual((word, len(path)), ("leak", len(late(pads)["rows"]) - 2))
        for pads in (4, 5):
            self.assertEqual(self.search(late(pads), 0), ("many", ()))

    def test_many(self):
        for window in (0, 1, 2, 40, 1000, None):
            self.assertEqual(self.search(MANY, window), ("many", ()))

    def test_against_another_search(self):
        choices = Choices(11)
        words = []
        for _ in range(400):
            given, window = choices.risky(4 + choices.number(7)), choices.one_of(WINDOWS)
            word, found = self.search(given, window)
            words.append(word)
            met = met_states(given, window)
            if len(met) > MOST_STATES:
                self.assertEqual((word, found), ("many", ()))
            elif is_leak(given, met[-1][0], window):
                self.assertEqual((word, found), ("leak", met[-1][1]))
            else:
                self.assertEqual((word, found), ("table", sorted((state for state, _ in met), key=repr)))
                self.assertTrue(self.judge(given, window, found))
        for word in ("table", "leak"):
            self.assertGreater(words.count(word), 60)

    def test_the_bound_to_the_state(self):
        """However many states a program has, the leak and the last state are counted in the same way."""
        choices = Choices(12)
        for _ in range(60):
            given, window = choices.risky(7), choices.one_of((0, 1, 2, 3, None))
            found = self.search(given, window)
            if found[0] == "many":
                continue
            many = len(met_states(given, window))
            with mock.patch.object(tables, "MOST_STATES", many):
                self.assertEqual(search(given, window), found)
            if many > 1:
                with mock.patch.object(tables, "MOST_STATES", many - 1):
                    self.assertEqual(search(given, window), ("many", ()))

    def test_no_windows(self):
        for given in (GUESSED, MASKED, program(END), program(("load", 0, 0, 1), END, secret=(1,))):
            for window in NO_WINDOWS:
                for function in (search, is_accepted):
                    with self.assertRaises(NotValid):
                        function(given, window)

    def test_numbers_somewhat_beyond_their_limits(self):
        for row in (("ask", 5), ("mix", 0, 6, 7), ("load", 9, 2, 0), ("mask", 0, 3, 4), ("test", 0, 2, 3),
                    ("put", 2, 4), ("get", 4, 3), ("jump", 8)):
            given = program(("ask", 0), row, ("ask", 1), END)
            for window in (0, 1, None):
                self.assertEqual(search(given, window)[0], "table", row)


class JudgeTest(TablesCase):
    """Point [23]."""

    def tables(self):
        """Programs, windows and their tables."""
        for given in (GUESSED, PUT, MASKED, program(END)):
            for window in (0, 1, 2, None):
                word, found = search(given, window)
                if word == "table":
                    yield given, window, found

    def judged_alone(self, given, window, table):
        """What point [23] says, word for word."""
        known = [repr(state) for state in table]
        if known != sorted(set(known)) or repr(first_state(given)) not in known:
            return False
        for state in table:
            if is_leak(given, state, window):
                return False
            if any(repr(behind) not in known for _, behind in steps(given, state, window)):
                return False
        return True

    def test_tables(self):
        found = list(self.tables())
        self.assertGreater(len(found), 8)
        for given, window, table in found:
            kept = copy.deepcopy((given, table))
            self.assertTrue(self.judge(given, window, table))
            self.assertEqual((given, table), kept)

    def test_a_state_is_missing(self):
        for given, window, table in self.tables():
            for at in range(len(table)):
                self.assertFalse(self.judge(given, window, table[:at] + table[at + 1:]))
            self.assertFalse(self.judge(given, window, []))

    def test_a_state_stands_twice(self):
        for given, window, table in self.tables():
            for at in range(len(table)):
                self.assertFalse(self.judge(given, window, [*table[:at], table[at], *table[at:]]))

    def test_another_order(self):
        for given, window, table in self.tables():
            for at in range(len(table) - 1):
                bent = [*table[:at], table[at + 1], table[at], *table[at + 2:]]
                self.assertFalse(self.judge(given, window, bent))
        # By the numbers of their places instead of by their texts.
        rows = [("jump", place + 1) for place in range(11)]
        table = search(program(*rows, END), None)[1]
        self.assertTrue(self.judge(program(*rows, END), None, table))
        self.assertFalse(self.judge(program(*rows, END), None, sorted(table)))

    def test_a_state_is_another_one(self):
        for given, window, table in self.tables():
            for at, state in enumerate(table):
                place, registers, slots, facts, depth = state
                for other in (
                        (place + 1, *state[1:]), (place, (S, *registers[1:]), slots, facts, depth),
                        (place, registers, ((S, Z, None), slots[1]), facts, depth), (*state[:4], 7),
                        (place, registers, slots[::-1], facts, depth), (*state[:3], ((True, True),), depth)):
                    if other != state:
                        bent = sorted([*table[:at], other, *table[at + 1:]], key=repr)
                        self.assertFalse(self.judge(given, window, bent))

    def test_states_of_other_forms(self):
        for given, window, table in self.tables():
            for at, state in enumerate(table):
                place, registers, slots, facts, depth = state
                others = [list(state), state[:4], (*state, None), repr(state), None, (None, *state[1:]),
                          (-1, *state[1:]), (place, list(registers), slots, facts, depth), (*state[:4], -1),
                          (place, registers, list(slots), facts, depth), (*state[:4], False), {state: True}]
                if place < 2:
                    others.append((bool(place), *state[1:]))
                if facts:
                    numbers = tuple(tuple(0 if fact is False else fact for fact in told) for told in facts)
                    others.append((place, registers, slots, numbers, depth))
                for other in others:
                    if repr(other) != repr(state):
                        self.assertFalse(self.judge(given, window, [*table[:at], other, *table[at + 1:]]))

    def test_a_list_of_another_kind(self):
        class Several(list):
            pass

        for given, window, table in self.tables():
            for other in (tuple(table), Several(table), dict.fromkeys(table), repr(table), [table], (table,),
                          ("table", table), [list(state) for state in table]):
                self.assertFalse(self.judge(given, window, other))

    def test_other_values(self):
        own = []
        own.append(own)
        for value in (*OTHER_VALUES, own, [own], [st(Wild())], [st(0, Wild())], [st(0, deep())], [(deep(),) * 5]):
            for given in (MASKED, program(END)):
                for window in (0, 40, None):
                    self.assertFalse(self.judge(given, window, value))

    def test_further_states(self):
        """What no step leads to may be in a table, if it is closed and no leak is in it."""
        given = program(("ask", 0), ("load", 1, 0, 2), END)
        table = search(given, None)[1]
        ending = st(2, (S, S, S, S), depth=0)
        self.assertTrue(self.judge(given, None, sorted([*table, ending], key=repr)))
        self.assertFalse(self.judge(given, None, [*table, st(2, (Z, Z, Z, Z)), ending]))
        # Its step leads to a state that has to be in the table, too.
        before, behind = st(1, (S, Z, Z, Z)), st(2, (S, P0, Z, Z), facts=(NONE,))
        self.assertFalse(self.judge(given, None, sorted([*table, before], key=repr)))
        self.assertFalse(self.judge(given, None, sorted([*table, before, ending], key=repr)))
        self.assertTrue(self.judge(given, None, sorted([*table, before, behind], key=repr)))
        self.assertTrue(self.judge(given, None, sorted([*table, before, behind, ending], key=repr)))
        # A leak: the load by a secret value.
        self.assertFalse(self.judge(given, None, sorted([*table, st(1, (Z, Z, S, Z))], key=repr)))

    def test_places_that_the_program_does_not_have(self):
        given = program(("ask", 0), END)
        table = search(given, None)[1]
        for place in (2, 31, 32, 10 ** 20):
            self.assertFalse(self.judge(given, None, sorted([*table, st(place)], key=repr)))

    def test_numbers_that_have_no_text(self):
        given = program(("ask", 0), END)
        table = search(given, None)[1]
        long = 10 ** 5000
        for state in (st(long), st(1, depth=long), st(1, slots=((Z, Z, long), SLOT))):
            self.assertTrue(is_state(state))
            for window in (None, 3, 10 * long):
                self.assertFalse(self.judge(given, window, [*table, state]))
                self.assertFalse(self.judge(given, window, [state]))

    def test_the_table_of_another_program_or_window(self):
        self.assertFalse(self.judge(MASKED, None, search(program(END), None)[1]))
        self.assertFalse(self.judge(program(END), None, search(MASKED, None)[1]))
        other = program(*MASKED["rows"], secret=(1, 2))
        self.assertFalse(self.judge(other, None, search(MASKED, None)[1]))
        tables_of = {window: search(GUESSED, window)[1] for window in (0, 1)}
        for window, table in tables_of.items():
            for another in (0, 1, 2, 3, 40, None):
                self.assertEqual(self.judge(GUESSED, another, table), self.judged_alone(GUESSED, another, table))
        self.assertTrue(self.judge(GUESSED, 1, tables_of[1]))
        for window, table in ((1, 0), (2, 0), (2, 1), (40, 1), (None, 0), (None, 1)):
            self.assertFalse(self.judge(GUESSED, window, tables_of[table]))

    def test_tables_may_have_more_states(self):
        """Only the search gives up."""
        states = [first_state(AGEING), st(1, slots=((Z, Z, None), SLOT))]
        states += [st(1, slots=((Z, Z, age), SLOT)) for age in range(1000)]
        self.assertTrue(self.judge(AGEING, 1000, sorted(states, key=repr)))
        self.assertFalse(self.judge(AGEING, 1001, sorted(states, key=repr)))

    def test_bent_tables_against_the_words(self):
        choices = Choices(13)
        told = []
        for _ in range(300):
            given, window = choices.risky(5), choices.one_of((0, 1, 2, None))
            word, table = search(given, window)
            other = search(choices.risky(5), window)
            if word != "table" or other[0] != "table":
                continue
            mixed = {repr(state): state for state in (*table, *other[1])}
            for bent in (table, other[1], sorted(mixed.values(), key=repr), [*table, *other[1]],
                         [state for state in table if choices.number(9)]):
                told.append(self.judge(given, window, bent))
                self.assertEqual(told[-1], self.judged_alone(given, window, bent))
        self.assertGreater(told.count(True), 60)
        self.assertGreater(told.count(False), 60)

    def test_no_windows(self):
        for window in NO_WINDOWS:
            for table in (search(MASKED, None)[1], [], None):
                with self.assertRaises(NotValid):
                    judge_table(MASKED, window, table)


class FollowTest(TablesCase):
    """The states along a path, by the interface."""

    def test_an_empty_path(self):
        for given in (GUESSED, PUT, TESTED, MANY):
            for window in WINDOWS:
                self.assertEqual(follow(given, window, []), [first_state(given)])

    def test_a_path(self):
        here = (P0, S, Z, Z)
        path = list(GUESSED_PATH)
        kept = copy.deepcopy((GUESSED, path))
        states = follow(GUESSED, None, path)
        self.assertEqual((GUESSED, path), kept)
        self.assertIs(type(states), list)
        self.assertEqual(states, [
            st(0, (Z, S, Z, Z)), st(1, here, facts=(NONE,)), st(2, here, facts=((False, None),), depth=0),
            st(3, (P0, S, S, Z), facts=((False, None),), depth=0)])
        self.assertEqual([state[4] for state in follow(GUESSED, 2, path)], [None, None, 0, 1])
        for many in range(4):
            self.assertEqual(follow(GUESSED, None, path[:many]), states[:many + 1])

    def test_a_path_through_an_end(self):
        given = program(("ask", 0), END)
        self.assertEqual(len(follow(given, None, [(STEP, None)])), 2)
        self.assertIsNone(follow(given, None, [(STEP, None), (STEP, None)]))

    def test_a_path_behind_a_leak(self):
        self.assertIsNone(follow(GUESSED, None, [*GUESSED_PATH, (STEP, None)]))
        self.assertIsNone(follow(TESTED, 0, [*TESTED_PATH, (STEP, None)]))

    def test_labels_that_are_none_of_a_step(self):
        wrong = [(STEP, (0, True)), (IN, None), (OUT, None), (STALE, None), (("look",), None), (("step",), (1, None))]
        for label in wrong:
            self.assertIsNone(follow(GUESSED, None, [label]))
            self.assertIsNone(follow(GUESSED, None, [label, (STEP, None)]))
        asked = [(STEP, None)]
        for label in (
                (IN, (0, True)), (OUT, (0, False)), (STEP, None), (IN, None), (STEP, (1, True)), (IN, (1, False))):
            self.assertIsNone(follow(GUESSED, None, [*asked, label]))
        for label in ((STEP, (0, True)), (STEP, (0, False)), (IN, (0, False)), (OUT, (0, True))):
            self.assertEqual(len(follow(GUESSED, None, [*asked, label])), 3)

    def test_labels_of_other_forms(self):
        asked = [(STEP, None)]
        wrong = (
            (STEP, (0, 1)), (STEP, (False, True)), (STEP, (0.0, True)), (STEP, [0, True]), [STEP, (0, True)],
            (["step"], (0, True)), (STEP, (0, True), None), (STEP,), STEP, "step", None, True, 0, (), [], {},
            (None, None), (STEP, True), (STEP, (True,)), (STEP, (0, True, None)), ("step", (0, True)),
            ((b"step",), (0, True)), Wild(), (Wild(), (0, True)), (STEP, Wild()), (STEP, (Wild(), True)),
            (STEP, (0, Wild())), deep(), (STEP, deep()))
        for label in wrong:
            self.assertIsNone(follow(GUESSED, None, [*asked, label]))
        self.assertEqual(len(follow(GUESSED, None, [*asked, (STEP, (0, True))])), 3)

    def test_the_window(self):
        path = [(STEP, None), (IN, (0, False)), (STEP, None)]
        self.assertIsNone(follow(GUESSED, 0, path))
        self.assertEqual(len(follow(GUESSED, 1, path)), 4)
        self.assertIsNone(follow(PUT, 0, PUT_PATH))
        self.assertEqual(len(follow(PUT, 1, PUT_PATH)), 4)

    def test_no_windows(self):
        for window in NO_WINDOWS:
            for path in ([], GUESSED_PATH):
                with self.assertRaises(NotValid):
                    follow(GUESSED, window, path)

    def test_found_paths_lead_to_leaks(self):
        choices = Choices(14)
        many = 0
        for _ in range(200):
            given, window = choices.risky(9), choices.one_of(WINDOWS)
            word, path = search(given, window)
            if word == "leak":
                states = follow(given, window, path)
                self.assertEqual(len(states), len(path) + 1)
                self.assertEqual([is_leak(given, state, window) for state in states], [False] * len(path) + [True])
                many += 1
        self.assertGreater(many, 60)


class LeastWindowTest(TablesCase):
    """Point [25]."""

    def test_accepted_without_a_bound(self):
        for given in (MASKED, program(END), AGEING):
            self.assertIsNone(least_window(given))

    def test_refused(self):
        for given, least in ((GUESSED, 2), (PUT, 1), (TESTED, 0), (program(("load", 0, 0, 1), END, secret=(1,)), 0)):
            kept = copy.deepcopy(given)
            found = least_window(given)
            self.assertEqual((type(found), found), (int, least))
            self.assertEqual(given, kept)

    def test_each_window(self):
        # So many instructions stand between the guess and the leak.
        for many in range(26):
            rows = [("jump", place + 1) for place in range(3, 3 + many)]
            given = program(
                ("ask", 0), ("test", 0, 0, 4 + many), ("load", 2, 0, 0), *rows, ("load", 3, 1, 2), END, secret=(1,))
            self.assertEqual(least_window(given), 2 + many)

    def test_windows_beyond_those_of_the_machine(self):
        # A loop behind a guess: each time the secret value goes one register further.
        rows = [("jump", place + 1) for place in range(3, 18)]
        given = program(
            ("ask", 0), ("test", 0, 0, 22), ("load", 2, 0, 0), *rows, ("load", 0, 1, 3), ("mask", 3, 0, 1),
            ("mask", 1, 0, 2), ("jump", 3), END)
        least = least_window(given)
        self.assertGreater(least, 41)
        self.assertTrue(is_accepted(given, least - 1))
        self.assertIs(is_accepted(given, least), False)

    def test_gives_up(self):
        self.assertEqual(least_window(MANY), -1)

    def test_gives_up_with_a_bound(self):
        given = program(
            ("ask", 0), ("mask", 0, 0, 0), ("get", 3, 0), ("test", 1, 0, 3), ("put", 0, 2), ("ask", 1),
            ("load", 2, 0, 2), ("test", 1, 0, 9), ("test", 3, 0, 2), END, secret=(3,))
        self.assertIs(is_accepted(given, None), False)
        self.assertTrue(is_accepted(given, 9))
        self.assertIsNone(is_accepted(given, 10))
        self.assertEqual(least_window(given), -1)

    def test_refused_for_all_greater_windows(self):
        choices = Choices(15)
        seen = []
        for _ in range(3000):
            given = choices.risky(4 + choices.number(6))
            if search(given, 0)[0] == "leak" and choices.number(20):
                continue
            least = least_window(given)
            told = [is_accepted(given, window) for window in range(8)]
            seen.append(least)
            if least is None:
                self.assertIs(is_accepted(given, None), True)
                self.assertNotIn(False, told)
            elif least == -1:
                self.assertIn(None, [is_accepted(given, window) for window in (None, *range(60))])
            else:
                self.assertIs(is_accepted(given, None), False)
                for window, accepted in enumerate(told):
                    if window < least:
                        self.assertIs(accepted, True)
                    else:
                        self.assertIsNot(accepted, True)
                self.assertIs(is_accepted(given, least), False)
        self.assertGreater(len([least for least in seen if least not in (None, 0, -1)]), 12)
        self.assertGreater(seen.count(None), 60)


if __name__ == "__main__":
    unittest.main()
