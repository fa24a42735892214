import copy
import unittest

from guesshush.attacks import attack_of, judge_attack
from guesshush.errors import NotValid
from guesshush.guess import Machine, view_of
from guesshush.programs import is_in
from guesshush.states import kind_of
from guesshush.tables import follow, search
from tests.helper import (
    GUESSED, GUESSED_PATH, IN, MASKED, NO_WINDOWS, OTHER_VALUES, OUT, PUT, PUT_PATH, STALE, STEP, TESTED, TESTED_PATH,
    Choices, Wild, deep, meaning, program, secrets)

END = ("end",)
LOOK = ("look",)

# The windows of the machine that the random attacks are made for.
WINDOWS = (0, 1, 2, 3, 5, 12, 40)


def plain(many):
    """The labels of so many steps that ask for no fact."""
    return [(STEP, None)] * many


class AttackCase(unittest.TestCase):
    def attack(self, given, window, path):
        """The attack; what was passed stays as it was, and the judge takes it."""
        kept = copy.deepcopy((given, path))
        found = attack_of(given, window, path)
        self.assertEqual((given, path), kept)
        self.assertEqual((type(found), len(found)), (tuple, 4))
        self.assertIs(judge_attack(given, 40 if window is None else window, found), True)
        return found

    def check(self, given, path, meant, one, other, window=None, first=True):
        """The attack of the path; 0 may be a key of its arrays or not, as it is in all of them."""
        found = self.attack(given, window, path)
        arrays = tuple({key for key in array if key != 0} for array in found[0]["arrays"])
        self.assertEqual(arrays, tuple(set(array) for array in meant["arrays"]))
        self.assertEqual({**found[0], "arrays": ()}, {**meant, "arrays": ()})
        self.assertEqual(found[1:3], (one, other))
        self.assertEqual(found[3], [label[0] for label in path] + [STEP])
        self.assertIs(type(found[3]), list)
        if first:
            self.assertEqual(search(given, window), ("leak", path))


class AttackTest(AttackCase):
    """Points [27] and [28]."""

    def test_an_empty_path(self):
        for window in (0, 1, 40, None):
            self.check(program(("load", 0, 0, 1), END, secret=(1,)), [], meaning((1, 2), (1, 2)),
                       secrets([1]), secrets([2]), window)

    def test_an_empty_path_to_a_test(self):
        self.check(program(("test", 1, 0, 1), END, secret=(1,)), [], meaning((1,), (1, 2)), secrets([1]), secrets([2]))
        self.check(program(("test", 1, 1, 1), END, secret=(1,)), [], meaning((1, 2), (1,)), secrets([1]), secrets([2]))

    def test_several_secret_registers(self):
        for r, row, meant in (
                (0, "load", meaning(range(1, 9), range(1, 9))), (3, "load", meaning(range(1, 9), range(1, 9))),
                (0, "test", meaning((1, 3, 4, 5, 6, 7, 8), range(1, 9))),
                (2, "test", meaning((1, 2, 3, 4, 5, 7, 8), range(1, 9)))):
            row = (row, 0, 0, r) if row == "load" else (row, r, 0, 1)
            self.check(program(row, END, secret=(0, 1, 2, 3)), [], meant, secrets([1, 3, 5, 7]), secrets([2, 4, 6, 8]))
        self.check(program(("load", 0, 0, 3), END, secret=(1, 3)), [], meaning(range(1, 5), range(1, 5)),
                   secrets([1, 3]), secrets([2, 4]))

    def test_asks(self):
        given = program(("ask", 0), ("ask", 2), ("ask", 0), ("load", 0, 0, 1), END, secret=(1,))
        self.check(given, plain(3), meaning((1, 2), (1, 2), asked=[3, 4, 5]), secrets([1]), secrets([2]))

    def test_mixings(self):
        given = program(
            ("mix", 0, 0, 2), ("mix", 2, 0, 1), ("mix", 2, 2, 2), ("ask", 3), ("mix", 3, 3, 0), ("load", 0, 1, 2), END,
            secret=(1,))
        tables = [{(0, 0): 3}, {(3, 1): 4, (3, 2): 5}, {(4, 4): 6, (5, 5): 7}, {(8, 3): 9}]
        numbers = (1, 2, 4, 5, 6, 7)
        self.check(given, plain(5), meaning(numbers, numbers, asked=[8], mixed=tables), secrets([1]), secrets([2]))

    def test_loads(self):
        given = program(
            ("load", 0, 0, 0), ("load", 2, 0, 0), ("load", 3, 1, 0), ("load", 0, 1, 2), ("load", 0, 0, 1), END,
            secret=(1,))
        path = [(STEP, None), (STEP, (0, True)), (STEP, (1, True)), (STEP, (1, True))]
        self.check(given, path, meaning((1, 2, 3), (1, 2, 3, 4), loaded=[3, 4, 5, 6]),
                   secrets([1], [0, 0, 0, 0]), secrets([2], [0, 0, 0, 0]), first=False)

    def test_secret_loads(self):
        given = program(("load", 0, 1, 0), ("load", 2, 0, 0), ("ask", 0), ("load", 3, 1, 2), END)
        path = [(STEP, None), (STEP, (0, False)), (STEP, None)]
        self.check(given, path, meaning((2, 3), (2, 3), asked=[4], loaded=[1, 0]), secrets([], [0, 2]),
                   secrets([], [0, 3]))

    def test_facts(self):
        # 1 is in the array 0 alone, 2 in none, 3 in both.
        rows = [row for r in range(3) for row in (("ask", r), ("mask", r, 0, r), ("mask", r, 1, r))]
        given = program(*rows, ("load", 0, 0, 3), END, secret=(3,))
        path = [
            (STEP, None), (STEP, (0, True)), (STEP, (1, False)), (STEP, None), (STEP, (0, False)), (STEP, None),
            (STEP, None), (STEP, (0, True)), (STEP, (1, True))]
        found = self.attack(given, None, path)
        self.assertEqual([sorted(array) for array in found[0]["arrays"]], [[1, 2, 3, 5], [1, 2, 5]])
        self.assertEqual(found[0]["asked"], [3, 4, 5])

    def test_the_value_of_a_fact_is_not_the_state_s_number(self):
        # The first public value is forgotten, so that the second one has the number 0 in the states.
        given = program(("ask", 0), ("ask", 0), ("mask", 2, 0, 0), ("load", 0, 0, 1), END, secret=(1,))
        self.check(given, [*plain(2), (STEP, (0, True))], meaning((1, 2, 4), (1, 2), asked=[3, 4]),
                   secrets([1]), secrets([2]))

    def test_a_guess(self):
        numbers = (1, 2, 4, 5)
        meant = meaning(numbers, numbers, asked=[3], loaded=[0])
        for window in (2, 3, 40, None):
            self.check(GUESSED, GUESSED_PATH, meant, secrets([1], [4]), secrets([2], [5]), window)

    def test_a_guess_of_the_other_way(self):
        given = program(("ask", 0), ("test", 0, 0, 3), END, ("load", 1, 0, 2), END, secret=(2,))
        self.check(given, [(STEP, None), (STEP, (0, False))], meaning((1, 2), (1, 2), asked=[3]),
                   secrets([1]), secrets([2]), 0)
        given = program(("ask", 0), ("test", 0, 0, 3), ("load", 1, 0, 2), END, secret=(2,))
        path = [(STEP, None), (OUT, (0, True))]
        self.assertIsNone(follow(given, 1, [*path, (STEP, None)]))
        with self.assertRaises(NotValid):
            attack_of(given, 1, path)

    def test_a_stale_get(self):
        for window in (1, 2, 40, None):
            self.check(PUT, PUT_PATH, meaning((1, 2), (1, 2)), secrets([1]), secrets([2]), window)

    def test_a_stale_get_of_the_other_slot(self):
        given = program(
            ("put", 1, 2), ("ask", 0), ("put", 1, 0), ("get", 3, 1), ("mix", 0, 3, 3), ("test", 3, 0, 0), END,
            secret=(2,))
        table = {(1, 1): 4, (2, 2): 5}
        path = [*plain(3), (STALE, None), (STEP, None)]
        self.check(given, path, meaning((1, 4, 5), (1, 2, 4, 5), asked=[3], mixed=[table]), secrets([1]), secrets([2]))

    def test_the_real_way_of_a_get(self):
        given = program(("put", 0, 1), ("get", 2, 0), ("put", 0, 0), ("load", 0, 1, 2), END, secret=(1,))
        self.check(given, plain(3), meaning((1, 2), (1, 2)), secrets([1]), secrets([2]))

    def test_a_test_by_a_value_that_came_from_a_mask(self):
        self.check(TESTED, TESTED_PATH, meaning((1,), (1, 2)), secrets([1]), secrets([2]))

    def test_a_test_by_a_value_that_came_a_long_way(self):
        # Of the mixing's numbers, 5 and 6, the second one is not in the array 1.
        given = program(
            ("ask", 0), ("mix", 1, 0, 2), ("put", 1, 1), ("mask", 1, 1, 1), ("get", 3, 1), ("mask", 0, 0, 3),
            ("put", 0, 0), ("get", 3, 0), ("test", 3, 1, 0), END, secret=(2, 3))
        table = {(5, 1): 6, (5, 2): 7}
        self.check(given, plain(8), meaning((1, 2, 3, 4, 6, 7), (1, 2, 3, 4, 6), asked=[5], mixed=[table]),
                   secrets([1, 3]), secrets([2, 4]), 0)

    def test_a_test_by_what_a_load_gave(self):
        given = program(("ask", 0), ("load", 2, 0, 0), ("test", 2, 0, 0), END, secret=(1,))
        self.check(given, [(STEP, None), (STEP, (0, False))],
                   meaning((1, 2, 4), (1, 2, 4, 5), asked=[3], loaded=[0]), secrets([1], [4]), secrets([2], [5]))

    def test_a_mask_takes_the_number_that_is_not_in_the_array(self):
        # In the array of the test the mask gives 1 for the one secrets, and 0 for the other.
        given = program(("mask", 2, 0, 1), ("mix", 0, 2, 1), ("mix", 0, 0, 2), ("test", 1, 0, 0), END, secret=(1,))
        tables = [{(1, 1): 3, (0, 2): 4}, {(3, 1): 5, (4, 0): 6}]
        self.check(given, plain(3), meaning((1, 3, 4, 5, 6), range(1, 7), mixed=tables), secrets([1]), secrets([2]))
        # In the other array it gives both numbers.
        given = program(("mask", 2, 1, 1), ("mix", 0, 2, 1), ("test", 1, 0, 0), END, secret=(1,))
        self.check(given, plain(2), meaning((1, 3, 4), range(1, 5), mixed=[{(1, 1): 3, (2, 2): 4}]), secrets([1]),
                   secrets([2]))
        # The same array, but the leak is a load.
        given = program(("mask", 2, 0, 1), ("mix", 0, 2, 1), ("load", 0, 0, 1), END, secret=(1,))
        self.check(given, plain(2), meaning(range(1, 5), range(1, 5), mixed=[{(1, 1): 3, (2, 2): 4}]), secrets([1]),
                   secrets([2]))

    def test_paths_that_were_not_searched(self):
        # A longer way to the same leak.
        given = program(("ask", 0), ("test", 0, 0, 0), ("load", 0, 0, 1), END, secret=(1,))
        path = [(STEP, None), (STEP, (0, False)), (STEP, None), (OUT, (0, True)), (STEP, None), (IN, (0, False))]
        found = self.attack(given, 40, path)
        self.assertEqual(found[0]["asked"], [3, 4, 5])
        self.assertEqual([sorted(array) for array in found[0]["arrays"]], [[1, 2, 4], [1, 2]])
        self.assertEqual(found[3], [STEP, STEP, STEP, OUT, STEP, IN, STEP])

    def test_paths_that_lead_to_no_leak(self):
        wrong = [
            (GUESSED, None, []), (GUESSED, None, GUESSED_PATH[:1]), (GUESSED, None, GUESSED_PATH[:2]),
            (GUESSED, None, [*GUESSED_PATH, (STEP, None)]), (GUESSED, None, [(STEP, None), (STEP, (0, False))]),
            (GUESSED, 1, GUESSED_PATH), (GUESSED, 0, GUESSED_PATH), (GUESSED, None, PUT_PATH), (PUT, 0, PUT_PATH),
            (PUT, None, plain(3)), (TESTED, None, []), (TESTED, None, plain(2)), (MASKED, None, []),
            (MASKED, None, plain(2)), (program(END), None, []), (program(END), None, plain(1)),
            (TESTED, None, [(STEP, (0, True))]), (GUESSED, None, [(STEP, None), (IN, (0, 0)), (STEP, None)]),
            (GUESSED, None, [None]), (GUESSED, None, [Wild()])]
        for given, window, path in wrong:
            with self.assertRaises(NotValid):
                attack_of(given, window, path)

    def test_no_windows(self):
        for window in NO_WINDOWS:
            for given, path in ((GUESSED, GUESSED_PATH), (program(("load", 0, 0, 1), END, secret=(1,)), [])):
                with self.assertRaises(NotValid):
                    attack_of(given, window, path)


class NumbersTest(AttackCase):
    """Points [27] and [28], by what the guessing machine makes of random attacks."""

    def new_numbers(self, secret, last):
        return (last + 1, last + 2) if secret else (last + 1, last + 1)

    def check_numbers(self, given, window, path, attack):
        """Each value gets its number when it is new; returns the numbers that are to be in the arrays."""
        meant, one, other, _ = attack
        machines = [Machine(given, meant, told, window) for told in (one, other)]
        last = 0
        inside = [set(), set()]
        for k, r in enumerate(given["secret"]):
            pair = self.new_numbers(True, last)
            self.assertEqual(tuple(machine.state()["registers"][r] for machine in machines), pair)
            last = pair[1]
            inside = [array | set(pair) for array in inside]
        states = follow(given, window, path)
        for label, state, behind in zip(path, states, states[1:]):
            row = given["rows"][state[0]]
            if label[1] is not None and label[1][1]:
                number = machines[0].state()["registers"][row[1] if row[0] == "test" else row[3]]
                inside[label[1][0]].add(number)
            for machine in machines:
                self.assertIsNotNone(machine.direct(label[0]))
            self.assertEqual(machines[0].view(), machines[1].view())
            if row[0] in ("ask", "mix", "load"):
                secret = kind_of(behind, row[1])[0] == "secret"
                pair = self.new_numbers(secret, last)
                self.assertEqual(tuple(machine.state()["registers"][row[1]] for machine in machines), pair)
                last = pair[1]
                if secret:
                    inside = [array | set(pair) for array in inside]
        return inside, [machine.state()["registers"] for machine in machines]

    def test_random_attacks(self):
        choices = Choices(21)
        leaks = []
        for _ in range(3000):
            given, window = choices.risky(4 + choices.number(9)), choices.one_of(WINDOWS)
            word, path = search(given, window)
            if word != "leak":
                continue
            attack = self.attack(given, window, path)
            inside, registers = self.check_numbers(given, window, path, attack)
            leak = given["rows"][follow(given, window, path)[-1][0]]
            if leak[0] == "test":
                inside[leak[2]].discard(registers[1][leak[1]])
            arrays = [{key for key in array if key != 0} for array in attack[0]["arrays"]]
            self.assertEqual(arrays, inside)
            guessed = any(label[0] != STEP for label in path)
            leaks.append((leak[0], guessed))
            views = [view_of(given, attack[0], told, window, attack[3]) for told in attack[1:3]]
            self.assertEqual(views[0][:-1], views[1][:-1])
            self.assertEqual((len(views[0]), len(views[1])), (len(path) + 1,) * 2)
            self.assertNotEqual(views[0][-1], views[1][-1])
            if leak[0] == "test":
                self.assertEqual([view[-1][1] for view in views], [("in",), ("out",)])
        for kind in ("load", "test"):
            for guessed in (True, False):
                self.assertGreater(leaks.count((kind, guessed)), 8)

    def test_0_is_in_every_array(self):
        for given, path in ((GUESSED, GUESSED_PATH), (PUT, PUT_PATH), (TESTED, TESTED_PATH)):
            meant = attack_of(given, None, path)[0]
            self.assertTrue(is_in(meant, 0, 0) and is_in(meant, 1, 0))


class JudgeTest(AttackCase):
    """Point [26]."""

    def judge(self, given, window, attack):
        told = judge_attack(given, window, attack)
        self.assertIs(type(told), bool)
        return told

    def attacks(self):
        for given, path in ((GUESSED, GUESSED_PATH), (PUT, PUT_PATH), (TESTED, TESTED_PATH)):
            yield given, attack_of(given, None, path)

    def test_other_attacks(self):
        """Any attack by which the views differ is taken, also those that are made in another way."""
        given = program(("load", 0, 0, 1), END, secret=(1,))
        self.assertTrue(self.judge(given, 0, (meaning(), secrets([5]), secrets([-7]), [STEP])))
        self.assertTrue(self.judge(given, 0, (meaning(), secrets([5]), secrets(), [STEP])))
        attack = (meaning(), secrets([5, 9]), secrets([6, 9], [1, 2]), [LOOK, STALE, STEP])
        self.assertTrue(self.judge(given, 0, attack))
        given = program(("ask", 0), ("test", 1, 0, 2), END, secret=(1,))
        meant = meaning((5,), (6,), [1, 2], [{(1, 2): 3}], [4])
        self.assertTrue(self.judge(given, 3, (meant, secrets([5]), secrets([6]), [STEP, STEP])))
        self.assertTrue(self.judge(given, 3, (meant, secrets([5]), secrets([6]), [STEP, IN, LOOK])))

    def test_views_that_do_not_differ(self):
        given = program(("load", 0, 0, 1), END, secret=(1,))
        for one, other, directives in (
                ([5], [5], [STEP]), ([5], [6], []), ([5], [6], [LOOK]), ([5], [6], [IN, OUT, STALE, LOOK]),
                ([], [0], [STEP]), ([5, 1], [5, 2], [STEP]), ([], [], [])):
            self.assertFalse(self.judge(given, 3, (meaning(), secrets(one), secrets(other), directives)))
        given = program(("ask", 0), ("test", 1, 0, 2), END, secret=(1,))
        for one, other in ((5, 7), (6, 8), (0, 5)):
            self.assertFalse(self.judge(given, 3, (meaning((5, 7)), secrets([one]), secrets([other]), [STEP, STEP])))

    def test_an_accepted_program(self):
        for given in (MASKED, program(("ask", 0), ("load", 1, 0, 0), END, secret=(1,))):
            for directives in ([STEP] * 9, [STEP, STEP, IN, STEP, LOOK], [STEP, STEP, OUT, LOOK, STEP]):
                for meant in (meaning(), meaning((3, 4), (3, 4), [3, 4])):
                    attack = (meant, secrets([3], [3]), secrets([4], [4]), directives)
                    self.assertFalse(self.judge(given, 40, attack))

    def test_the_window(self):
        attack = attack_of(GUESSED, None, GUESSED_PATH)
        self.assertEqual([self.judge(GUESSED, window, attack) for window in (0, 1, 2, 3, 40)],
                         [False, False, True, True, True])
        attack = attack_of(PUT, None, PUT_PATH)
        self.assertEqual([self.judge(PUT, window, attack) for window in (0, 1, 40)], [False, True, True])

    def test_a_directive_is_missing_or_another(self):
        for given, attack in self.attacks():
            for at in range(len(attack[3])):
                for directives in (attack[3][:at], attack[3][:at] + attack[3][at + 1:]):
                    self.assertFalse(self.judge(given, 40, (*attack[:3], directives)))
            self.assertTrue(self.judge(given, 40, (*attack[:3], [*attack[3], STEP, LOOK, STALE])))

    def test_secrets_that_are_the_same(self):
        for given, attack in self.attacks():
            for told in attack[1:3]:
                self.assertFalse(self.judge(given, 40, (attack[0], told, copy.deepcopy(told), attack[3])))
            self.assertTrue(self.judge(given, 40, (attack[0], attack[2], attack[1], attack[3])))

    def test_the_attack_stays_as_it_was(self):
        for given, attack in self.attacks():
            kept = copy.deepcopy((given, attack))
            judge_attack(given, 40, attack)
            self.assertEqual((given, attack), kept)

    def test_attacks_of_another_kind(self):
        for given, attack in self.attacks():
            for value in (list(attack), attack[:3], (*attack, []), (attack,), [attack], attack[::-1], repr(attack)):
                self.assertFalse(self.judge(given, 40, value))
            for value in OTHER_VALUES:
                self.assertFalse(self.judge(given, 40, value))
                for at in range(4):
                    bent = (*attack[:at], value, *attack[at + 1:])
                    if at < 3 or type(value) is not list or value:
                        self.assertFalse(self.judge(given, 40, bent), value)

    def test_directives_of_other_forms(self):
        for given, attack in self.attacks():
            class Several(list):
                pass

            for value in (tuple(attack[3]), Several(attack[3]), {STEP: True}, "step", STEP):
                self.assertFalse(self.judge(given, 40, (*attack[:3], value)))
            for wrong in (None, "step", ["step"], (), ("Step",), ("step", None), ("guess",), ("guess", "on"), 0, Wild(),
                          (Wild(),), deep(), (STEP, None)):
                for directives in ([*attack[3], wrong], [wrong, *attack[3]]):
                    self.assertFalse(self.judge(given, 40, (*attack[:3], directives)))

    def test_secrets_of_other_forms(self):
        for given, attack in self.attacks():
            for at in (1, 2):
                told = attack[at]
                wrong = [
                    {"registers": told["registers"]}, {"loaded": told["loaded"]}, {**told, "more": []}, {**told, 0: []},
                    [told], (told,), list(told.items()), {}, {Text("loaded"): [], "registers": []}]
                for key in ("registers", "loaded"):
                    values = told[key]
                    for other in (tuple(values), None, 0, "12", {}, {0: 1}, [*values, True], [*values, None],
                                  [*values, 1.0], [*values, "1"], [*values, ()], [*values, [1]], [*values, Wild()],
                                  [*values, deep()], [True], [False, 1], Wild()):
                        wrong.append({**told, key: other})
                for other in wrong:
                    self.assertFalse(self.judge(given, 40, (*attack[:at], other, *attack[at + 1:])), other)
                further = {"registers": [*told["registers"], -9, 10 ** 5000], "loaded": [*told["loaded"], -9, 10 ** 30]}
                self.assertTrue(self.judge(given, 40, (*attack[:at], further, *attack[at + 1:])))

    def test_meanings_of_other_forms(self):
        for given, attack in self.attacks():
            meant = attack[0]
            first, second = meant["arrays"]
            changes = {
                "arrays": (
                    None, (), (first,), (first, second, {}), [first, second], {0: first, 1: second},
                    (list(first), second), (first, set(second)), (first, None), ({**first, False: 0}, second),
                    ({True: 0}, second), (first, {**second, "1": 0}),
                    (first, {**second, None: 0}), (first, {**second, (1,): 0}), ({1.0: 0}, second), (Wild(), second)),
                "asked": (None, (3,), {0: 3}, "3", [True], [None], [3, "3"], [3.0], [[3]], [Wild()], Wild()),
                "mixed": (
                    None, (), {}, {(1, 2): 3}, [None], [[]], [((1, 2), 3)], [{1: 2}], [{(1,): 2}], [{(1, 2, 3): 4}],
                    [{(1, True): 2}], [{(False, 1): 2}], [{(1, 2): True}], [{(1, 2): None}], [{(1, 2): "3"}],
                    [{(1, "2"): 3}], [{"12": 3}], [{}, 0], [Wild()], [{(1, 2): Wild()}]),
                "loaded": (None, (3,), {0: 3}, "3", [False], [None], [3, "3"], [3.0], [(3,)], [Wild()], Wild())}
            wrong = [{**meant, key: value} for key, values in changes.items() for value in values]
            wrong += [{key: value for key, value in meant.items() if key != left} for left in meant]
            wrong += [{**meant, "more": []}, {**meant, 0: []}, {**meant, None: []}, [meant], list(meant.items())]
            for other in wrong:
                self.assertFalse(self.judge(given, 40, (other, *attack[1:])), other)

    def test_what_does_not_count(self):
        for given, attack in self.attacks():
            meant = attack[0]
            arrays = tuple({**{key: Wild() for key in array}, 0: None, -5: False} for array in meant["arrays"])
            tables = [*meant["mixed"], {}, {(0, -1): 10 ** 30}]
            other = {"arrays": arrays, "asked": [*meant["asked"], 8], "mixed": tables, "loaded": [*meant["loaded"], 9]}
            self.assertTrue(self.judge(given, 40, (other, *attack[1:])))

    def test_no_windows(self):
        for window in (*NO_WINDOWS, 41, 1000, None):
            for attack in (attack_of(GUESSED, None, GUESSED_PATH), None, ()):
                with self.assertRaises(NotValid):
                    judge_attack(GUESSED, window, attack)


class Text(str):
    """A string of another kind."""


if __name__ == "__main__":
    unittest.main()
