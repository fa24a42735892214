import copy
import itertools
import unittest

from guesshush.errors import NotValid
from guesshush.fences import judge_fences, least_hitting, place, region
from guesshush.programs import with_fences
from guesshush.states import is_leak
from guesshush.tables import follow, is_accepted, judge_table, search
from tests.helper import (
    GUESSED, GUESSED_PATH, IN, MANY, MASKED, NO_WINDOWS, OTHER_VALUES, OUT, PUT, PUT_PATH, STALE, STEP, TESTED,
    TESTED_PATH, Choices, Wild, deep, program)

END = ("end",)
FENCE = ("fence",)
S = (STEP, None)

# Two leaks by guesses, one after the other; the fence behind the first does not help against the second.
TWICE = program(
    ("ask", 0), ("test", 0, 0, 4), ("load", 2, 0, 0), ("load", 3, 1, 2),
    ("put", 0, 1), ("put", 0, 0), ("get", 2, 0), ("load", 3, 1, 2), END, secret=(1,))

# A loop: what was loaded is only used in the next round.
ROUND = program(
    ("ask", 0), ("load", 3, 1, 2), ("mix", 3, 3, 2), ("test", 0, 0, 6), ("load", 2, 0, 0), ("jump", 1), END,
    secret=(1,))
ROUND_PATH = [S, S, S, (IN, (0, False)), S, S]

WINDOWS = (1, 2, 3, 5, 8, 40, None)


def fenced_path(given, window, path, at):
    """The path of the program with one fence more, which is made as each other instruction."""
    made = []
    for label, state in zip([*path, None], follow(given, window, path)):
        if state[0] == at:
            made.append(S)
        made.append(label)
    return made[:-1]


def leads_to_leak(given, window, path):
    states = follow(given, window, path)
    return states is not None and is_leak(given, states[-1], window)


def least_accepted(given, window, most=3):
    """The first of the least fences that make the program accepted, found by trying all; None if there are none."""
    for many in range(most + 1):
        for fences in itertools.combinations(range(len(given["rows"])), many):
            if is_accepted(with_fences(given, list(fences)), window):
                return fences
    return None


def first_hitting(regions):
    """What least_hitting is to find, found by trying all."""
    places = sorted(set(itertools.chain(*regions)))
    for many in range(len(places) + 1):
        for fences in itertools.combinations(places, many):
            if all(set(fences) & set(one) for one in regions):
                return fences
    return None


class FencesCase(unittest.TestCase):
    def place(self, given, window):
        """The answer; what was passed stays as it was, and the judge takes the answer."""
        kept = copy.deepcopy(given)
        answer = place(given, window)
        self.assertEqual(given, kept)
        self.assertIs(type(answer), tuple)
        self.assertEqual(repr(place(given, window)), repr(answer))
        self.judge(given, window, answer, answer[0] == "fences")
        if answer[0] == "fences":
            _, fences, paths, table = answer
            self.assertEqual((len(answer), type(fences), type(paths), type(table)), (4, tuple, list, list))
            self.assertEqual(search(with_fences(given, list(fences)), window), ("table", table))
            regions = [region(given, window, path) for path in paths]
            self.assertEqual(least_hitting(regions), fences)
            for many, path in enumerate(paths):
                self.assertTrue(leads_to_leak(given, window, path))
                # Each path was found behind the fences that the paths before it ask for.
                before = least_hitting(regions[:many])
                self.assertFalse(set(before) & set(regions[many]))
        return answer

    def judge(self, given, window, answer, right):
        told = judge_fences(given, window, answer)
        self.assertIs(told, right)


class RegionTest(FencesCase):
    """Point [30]."""

    def region(self, given, window, path):
        kept = copy.deepcopy((given, path))
        found = region(given, window, path)
        self.assertEqual((given, path), kept)
        self.assertTrue(leads_to_leak(given, window, path))
        if found is not None:
            self.assertIs(type(found), tuple)
            self.assertEqual(list(found), sorted(set(found)))
        return found

    def test_a_guess(self):
        for window in (2, 3, 40, None):
            self.assertEqual(self.region(GUESSED, window, GUESSED_PATH), (2, 3))

    def test_a_stale_get(self):
        # The places behind the last put, with the get's own, and the leak's, which is behind the guess.
        for window in (1, 2, 40, None):
            self.assertEqual(self.region(PUT, window, PUT_PATH), (2, 3))
        given = program(("put", 0, 1), ("put", 0, 0), ("ask", 0), ("get", 2, 0), ("ask", 0), ("load", 3, 1, 2), END,
                        secret=(1,))
        self.assertEqual(self.region(given, None, [S, S, S, (STALE, None), S]), (2, 3, 4, 5))

    def test_the_last_put_of_its_slot(self):
        rows = [
            ("put", 0, 1), ("put", 0, 1), ("put", 1, 0), ("put", 0, 0), ("put", 1, 0), ("get", 2, 0), ("load", 3, 1, 2)]
        given = program(*rows, END, secret=(1,))
        path = [*[S] * 5, (STALE, None)]
        self.assertEqual(self.region(given, None, path), (4, 5, 6))
        rows[5] = ("get", 2, 1)
        rows[2] = ("put", 1, 1)
        given = program(*rows, END, secret=(1,))
        self.assertEqual(self.region(given, None, path), (5, 6))

    def test_no_guess(self):
        self.assertIsNone(self.region(TESTED, None, TESTED_PATH))
        for row in (("load", 0, 0, 1), ("test", 1, 0, 1)):
            self.assertIsNone(self.region(program(row, END, secret=(1,)), None, []))
        given = program(("put", 0, 1), ("get", 2, 0), ("load", 3, 1, 2), END, secret=(1,))
        self.assertIsNone(self.region(given, None, [S, S]))

    def test_the_first_guess(self):
        given = program(("ask", 0), ("test", 0, 0, 3), ("ask", 2), ("test", 2, 0, 5), END, ("load", 0, 0, 1), END,
                        secret=(1,))
        path = [S, (OUT, (0, True)), (OUT, None)]
        # The register 2 is 0, which is in each array: a guess of the other way.
        self.assertEqual(self.region(given, None, path), (3, 5))
        given = program(("ask", 0), ("test", 0, 0, 2), ("ask", 2), ("test", 2, 0, 5), END, ("load", 0, 0, 1), END,
                        secret=(1,))
        self.assertEqual(self.region(given, None, [S, (OUT, (0, True)), S, (OUT, (0, True))]), (2, 3, 5))
        self.assertEqual(self.region(given, None, [S, (STEP, (0, True)), S, (OUT, (0, True))]), (5,))

    def test_a_stale_get_behind_another_guess(self):
        # Behind the put, and behind the guess; the first guess is made behind the put.
        given = program(
            ("put", 0, 1), ("ask", 0), ("put", 0, 0), ("ask", 0), ("test", 0, 0, 6), ("ask", 3), ("get", 2, 0),
            ("load", 3, 1, 2), END, secret=(1,))
        path = [S, S, S, S, (OUT, (0, True)), (STALE, None)]
        self.assertEqual(self.region(given, None, path), (3, 4, 6, 7))
        self.assertEqual(self.region(given, 3, path), (3, 4, 6, 7))
        # The last put is made behind the guess.
        given = program(
            ("put", 0, 1), ("ask", 0), ("test", 0, 0, 4), END, ("put", 0, 0), ("get", 2, 0), ("load", 3, 1, 2), END,
            secret=(1,))
        self.assertEqual(self.region(given, None, [S, S, (OUT, (0, True)), S, (STALE, None)]), (4, 5, 6))

    def test_places_that_are_made_again(self):
        self.assertEqual(self.region(ROUND, None, ROUND_PATH), (1, 4, 5))
        # The test itself is made again behind its guess.
        given = program(("ask", 0), ("test", 0, 0, 4), ("load", 2, 1, 3), ("jump", 1), END, ("end",), secret=(1,))
        self.assertTrue(is_accepted(given, None))
        given = program(("ask", 0), ("test", 0, 0, 3), ("jump", 1), ("load", 0, 0, 1), END, secret=(1,))
        path = [S, (IN, (0, False)), S, (STEP, None)]
        self.assertEqual(self.region(given, None, path), (1, 2, 3))

    def test_fences_of_the_program_itself(self):
        given = with_fences(GUESSED, [0, 1])
        path = [S, S, S, (IN, (0, False)), S]
        self.assertEqual(self.region(given, None, path), (4, 5))

    def test_a_fence_stops_the_path_exactly_there(self):
        choices = Choices(31)
        kinds = []
        for _ in range(9000):
            given, window = choices.risky(4 + choices.number(7)), choices.one_of((0, 1, 2, 3, 5, None))
            word, path = search(given, window)
            directives = [label[0] for label in path]
            # Most leaks are met without a guess.
            if word != "leak" or (directives == [STEP] * len(path) and choices.number(20)):
                continue
            found = self.region(given, window, path)
            kinds.append((STALE in directives, IN in directives or OUT in directives))
            self.assertEqual(found is None, kinds[-1] == (False, False))
            for at in range(len(given["rows"])):
                behind = fenced_path(given, window, path, at)
                stopped = not leads_to_leak(with_fences(given, [at]), window, behind)
                self.assertEqual(stopped, found is not None and at in found)
        for kind in ((True, False), (False, True), (False, False)):
            self.assertGreater(kinds.count(kind), 8)

    def test_paths_that_lead_to_no_leak(self):
        for given, window, path in (
                (GUESSED, None, []), (GUESSED, None, GUESSED_PATH[:2]), (GUESSED, 1, GUESSED_PATH),
                (GUESSED, None, [*GUESSED_PATH, S]), (PUT, 0, PUT_PATH), (PUT, None, [S, S, S]), (MASKED, None, []),
                (TESTED, None, []), (GUESSED, None, [None]), (GUESSED, None, [S, (IN, (0, 0)), S])):
            with self.assertRaises(NotValid):
                region(given, window, path)

    def test_no_windows(self):
        for window in NO_WINDOWS:
            for given, path in ((GUESSED, GUESSED_PATH), (program(("load", 0, 0, 1), END, secret=(1,)), [])):
                with self.assertRaises(NotValid):
                    region(given, window, path)


class LeastHittingTest(FencesCase):
    """The least lot of places, by point [32] and the interface."""

    def check(self, regions, least):
        kept = copy.deepcopy(regions)
        found = least_hitting(regions)
        self.assertEqual((type(found), found), (tuple, least))
        self.assertEqual(regions, kept)

    def test_none(self):
        self.check([], ())

    def test_one(self):
        self.check([(4,)], (4,))
        self.check([(3, 7, 9)], (3,))
        self.check([(0, 31)], (0,))

    def test_the_fewest(self):
        self.check([(1, 5), (2, 5), (3, 5)], (5,))
        self.check([(1, 2), (3, 4)], (1, 3))
        self.check([(1, 2), (2, 3), (3, 4)], (1, 3))
        self.check([(1, 2), (1, 3), (2, 3)], (1, 2))
        # A place that is in most of them may be in none of the least lots.
        self.check([(1, 2), (1, 3), (1, 4), (2,), (3,), (4,)], (2, 3, 4))

    def test_the_least_of_several(self):
        self.check([(4, 9), (2, 9), (2, 4)], (2, 4))
        # As tuples (1, 30) is less than (2, 3).
        self.check([(1, 2), (3, 30), (2, 30)], (1, 30))
        self.check([(2, 5), (1, 5), (5, 6)], (5,))
        # As texts (10, 11) would be less than (2, 3).
        self.check([(2, 10), (3, 11)], (2, 3))

    def test_regions_more_than_once(self):
        self.check([(2, 3)] * 5, (2,))
        self.check([(2, 3), (2, 3, 4), (3,)], (3,))

    def test_many_regions(self):
        self.check([(2 * k, 2 * k + 1) for k in range(16)], tuple(range(0, 32, 2)))
        self.check([(k,) for k in range(31, -1, -1)], tuple(range(32)))
        self.check([(k, k + 1) for k in range(31)], tuple(range(0, 30, 2)) + (30,))
        self.check(list(itertools.combinations(range(9), 2)), tuple(range(8)))

    def test_against_trying_all(self):
        choices = Choices(32)
        for _ in range(1500):
            places = range(choices.number(9) + 1)
            regions = [choices.some_of(places) or (0,) for _ in range(choices.number(9))]
            self.check(regions, first_hitting(regions))

    def test_a_region_without_places(self):
        for regions in ([()], [(1, 2), ()], [(), ()]):
            with self.assertRaises(NotValid):
                least_hitting(regions)


class PlaceTest(FencesCase):
    """Points [29], [31] and [32]."""

    def test_no_fences(self):
        for given in (MASKED, program(END), program(("ask", 0), ("load", 1, 0, 0), END)):
            for window in (0, *WINDOWS):
                answer = self.place(given, window)
                self.assertEqual(answer, ("fences", (), [], search(given, window)[1]))

    def test_a_fence(self):
        for given, path, least in ((GUESSED, GUESSED_PATH, 2), (PUT, PUT_PATH, 1)):
            for window in (0, *WINDOWS):
                answer = self.place(given, window)
                if window is None or window >= least:
                    table = search(with_fences(given, [2]), window)[1]
                    self.assertEqual(answer, ("fences", (2,), [path], table))
                else:
                    self.assertEqual(answer, ("fences", (), [], search(given, window)[1]))

    def test_two_fences(self):
        answer = self.place(TWICE, None)
        self.assertEqual(answer[:2], ("fences", (2, 6)))
        self.assertGreaterEqual(len(answer[2]), 2)
        # With the bound 1 only the second leak is met.
        answer = self.place(TWICE, 1)
        self.assertEqual(answer[:2], ("fences", (6,)))

    def test_paths_leave_out_the_added_fences(self):
        # Both paths are those of the program itself: the second one makes the first fence, which is left out.
        given = program(
            ("ask", 0), ("test", 0, 0, 8), ("load", 2, 0, 0), ("load", 3, 1, 2), ("put", 0, 1), ("put", 0, 0),
            ("get", 2, 0), ("load", 3, 1, 2), END, secret=(1,))
        word, fences, paths, _ = self.place(given, None)
        self.assertEqual((word, fences, paths[0]), ("fences", (2, 6), GUESSED_PATH))
        self.assertEqual(paths[1], [S, (STEP, (0, True)), S, (STEP, (1, True)), S, S, (STALE, None)])
        self.assertEqual(region(given, None, paths[1]), (6, 7))
        found = search(with_fences(given, [2]), None)[1]
        self.assertEqual(len(found), len(paths[1]) + 1)

    def test_fences_of_the_program_itself_stay(self):
        given = with_fences(GUESSED, [0, 1])
        path = [S, S, S, (IN, (0, False)), S]
        self.assertEqual(self.place(given, None)[:3], ("fences", (4,), [path]))
        self.assertEqual(self.place(with_fences(GUESSED, [2]), None)[:3], ("fences", (), []))

    def test_a_loop(self):
        # A fence in front of the place 1 is made once in each round.
        self.assertEqual(self.place(ROUND, None)[:3], ("fences", (1,), [ROUND_PATH]))

    def test_no_fences_help(self):
        for window in (0, *WINDOWS):
            self.assertEqual(self.place(TESTED, window), ("none", TESTED_PATH))
            self.assertEqual(self.place(program(("load", 0, 0, 1), END, secret=(1,)), window), ("none", []))

    def test_no_fences_help_against_a_later_path(self):
        # The guess is met first; behind its fence the path without a guess is met.
        given = program(("ask", 0), ("test", 0, 0, 2), ("load", 3, 1, 1), END, secret=(1,))
        self.assertEqual(self.place(given, None), ("none", [S, (STEP, (0, True))]))
        given = program(
            ("ask", 0), ("test", 0, 0, 4), ("jump", 3), END, ("jump", 5), ("load", 3, 1, 1), END, secret=(1,))
        self.assertEqual(search(given, None), ("leak", [S, (OUT, (0, True)), S]))
        answer = self.place(given, None)
        self.assertEqual(answer, ("none", [S, (STEP, (0, False)), S]))
        self.assertIs(type(answer[1]), list)
        self.assertEqual(len(search(with_fences(given, [4]), None)[1]), 4)
        self.assertIsNone(region(given, None, answer[1]))

    def test_many(self):
        for window in (0, *WINDOWS):
            self.assertEqual(self.place(MANY, window), ("many", ()))

    def test_many_behind_a_fence(self):
        rows = [("test", row[1], row[2], row[3] + 4) if row[0] == "test" else row for row in MANY["rows"]]
        given = program(*GUESSED["rows"][:-1], *rows, secret=(1, 3))
        self.assertEqual(search(given, 3), ("leak", GUESSED_PATH))
        self.assertEqual(search(with_fences(given, [2]), 3), ("many", ()))
        self.assertEqual(self.place(given, 3), ("many", ()))

    def test_no_windows(self):
        for given in (GUESSED, MASKED, TESTED, program(END)):
            for window in NO_WINDOWS:
                with self.assertRaises(NotValid):
                    place(given, window)

    def test_against_trying_all(self):
        choices = Choices(33)
        words = []
        for _ in range(9000):
            given, window = choices.risky(4 + choices.number(7)), choices.one_of(WINDOWS)
            if is_accepted(given, 0) is not True or is_accepted(given, window) is not False:
                continue
            answer = self.place(given, window)
            words.append(answer[0])
            if answer[0] == "fences":
                self.assertEqual(answer[1], least_accepted(given, window))
        self.assertGreater(words.count("fences"), 30)

    def test_several_fences_against_trying_all(self):
        choices = Choices(34)
        parts = (GUESSED, PUT, ROUND, MASKED)
        several = 0
        for _ in range(25):
            rows = []
            for part in (choices.one_of(parts), choices.one_of(parts)):
                shift = len(rows)
                for row in part["rows"][:-1]:
                    if row[0] in ("test", "jump"):
                        row = (*row[:-1], row[-1] + shift)
                    rows.append(row)
            given, window = program(*rows, END, secret=(1,)), choices.one_of((1, 2, 3, None))
            answer = self.place(given, window)
            if answer[0] == "fences":
                self.assertEqual(answer[1], least_accepted(given, window))
                several += len(answer[1]) > 1
            elif answer[0] == "none":
                self.assertIsNone(least_accepted(given, window, 1))
        self.assertGreater(several, 3)


class JudgeTest(FencesCase):
    """The judge of answers, by points [29] to [31] and the interface."""

    def answers(self):
        for given in (GUESSED, PUT, TWICE, MASKED):
            for window in (1, 2, None):
                yield given, window, place(given, window)

    def answer(self, given, window, fences, paths):
        """An answer with these fences and paths, and with the table, if there is one."""
        return ("fences", fences, paths, search(with_fences(given, list(fences)), window)[1])

    def test_right_answers(self):
        for given, window, answer in self.answers():
            kept = copy.deepcopy((given, answer))
            self.judge(given, window, answer, True)
            self.assertEqual((given, answer), kept)

    def test_other_right_answers(self):
        # Other fences, as few: only the table, the paths and how many they are is judged.
        self.judge(GUESSED, None, self.answer(GUESSED, None, (3,), [GUESSED_PATH]), True)
        self.judge(PUT, None, self.answer(PUT, None, (3,), [PUT_PATH]), True)
        # Paths more than once, and in another order.
        _, fences, paths, table = place(TWICE, None)
        self.judge(TWICE, None, ("fences", fences, paths[::-1] * 3, table), True)

    def test_fences_that_are_not_the_fewest(self):
        for fences in ((2, 3), (0, 2), (1, 2), (2, 4), (0, 1, 2, 3, 4)):
            self.assertTrue(is_accepted(with_fences(GUESSED, list(fences)), None))
            self.judge(GUESSED, None, self.answer(GUESSED, None, fences, [GUESSED_PATH]), False)
        self.judge(MASKED, None, self.answer(MASKED, None, (1,), []), False)

    def test_fences_that_do_not_help(self):
        table = place(GUESSED, None)[3]
        for fences in ((), (0,), (1,), (4,)):
            self.assertIs(is_accepted(with_fences(GUESSED, list(fences)), None), False)
            self.judge(GUESSED, None, ("fences", fences, [GUESSED_PATH], table), False)
            self.judge(GUESSED, None, ("fences", fences, [], table), False)
        self.judge(GUESSED, None, ("fences", (3,), [GUESSED_PATH], table), False)

    def test_fences_that_are_none(self):
        for given, window, answer in self.answers():
            fences = answer[1]
            many = len(given["rows"])
            for wrong in (list(fences), None, 0, 2, True, "", "2", {}, {2: 2}, (-1, *fences), (*fences, many),
                          (*fences, many + 7), (*fences, *fences, 0), (True,), (False,), (None,), ("2",), (2.0,),
                          ((2,),), (2, 2), (6, 2), (deep(),), Wild(), (Wild(),)):
                self.judge(given, window, ("fences", wrong, *answer[2:]), False)

    def test_paths_that_are_missing(self):
        for given, window, answer in self.answers():
            _, fences, paths, table = answer
            for at in range(len(paths)):
                left = paths[:at] + paths[at + 1:]
                enough = len(least_hitting([region(given, window, path) for path in left])) == len(fences)
                self.judge(given, window, ("fences", fences, left, table), enough)
            if fences:
                self.judge(given, window, ("fences", fences, [], table), False)

    def test_paths_that_lead_to_no_leak(self):
        for given, window, answer in self.answers():
            _, fences, paths, table = answer
            for path in ([], [S], [(STEP, (0, True))], [(STALE, None)], [S] * 40):
                self.judge(given, window, ("fences", fences, [*paths, path], table), False)
            for path in paths:
                for bent in (path[:-1], [*path, S], path[1:], path[:1] + path):
                    self.judge(given, window, ("fences", fences, [*paths, bent], table), False)

    def test_paths_without_a_region(self):
        # No fences make the program accepted, so that there is no right answer.
        for fences in ((), (0,), (1,), (2,), (0, 1, 2)):
            for table in (search(MASKED, None)[1], [], search(program(END), None)[1]):
                self.judge(TESTED, None, ("fences", fences, [TESTED_PATH], table), False)

    def test_paths_of_other_forms(self):
        class Several(list):
            pass

        for given, window, answer in self.answers():
            _, fences, paths, table = answer
            for wrong in (tuple(paths), Several(paths), None, 0, "", {}, {0: []}, Wild()):
                self.judge(given, window, ("fences", fences, wrong, table), False)
            for path in (None, 0, "s", (), {}, [None], [0], ["step"], [[]], [Wild()], Wild(), [deep()], deep()):
                self.judge(given, window, ("fences", fences, [*paths, path], table), False)
            for path in paths:
                labels = [[list(label) for label in path], [(list(label[0]), label[1]) for label in path],
                          [(label[0], list(label[1]) if label[1] else None) for label in path]]
                numbers = [(label[0], label[1] and (label[1][0], int(label[1][1]))) for label in path]
                for bent in (tuple(path), Several(path), {0: path}, *labels, numbers):
                    if repr(bent) != repr(path) or type(bent) is not list:
                        self.judge(given, window, ("fences", fences, [*paths, bent], table), False)

    def test_tables_that_are_bent(self):
        for given, window, answer in self.answers():
            _, fences, paths, table = answer
            for at in range(len(table)):
                for bent in (table[:at] + table[at + 1:], table[:at] + table[at:at + 1] * 2 + table[at + 1:]):
                    self.judge(given, window, ("fences", fences, paths, bent), False)
            for bent in (tuple(table), table[::-1], *OTHER_VALUES):
                self.assertFalse(judge_table(given, window, bent))
                self.judge(given, window, ("fences", fences, paths, bent), False)

    def test_answers_of_another_kind(self):
        for given, window, answer in self.answers():
            for value in (list(answer), answer[:3], (*answer, []), answer[1:], (answer,), repr(answer), *OTHER_VALUES):
                self.judge(given, window, value, False)
            for word in ("Fences", b"fences", None, ("fences",), "table", Text("fences"), Wild()):
                self.judge(given, window, (word, *answer[1:]), False)
        for given in (TESTED, MANY):
            for value in (place(given, None), ("none", TESTED_PATH), ("none", [], [], []), ("many", ()), *OTHER_VALUES):
                self.judge(given, None, value, False)

    def test_the_answer_of_another_window_or_program(self):
        self.judge(GUESSED, None, place(GUESSED, 1), False)
        self.judge(GUESSED, 1, place(GUESSED, None), False)
        self.judge(GUESSED, None, place(PUT, None), False)
        self.judge(PUT, None, place(GUESSED, None), False)

    def test_no_windows(self):
        for window in NO_WINDOWS:
            for answer in (place(GUESSED, None), place(MASKED, None), None, ()):
                with self.assertRaises(NotValid):
                    judge_fences(GUESSED, window, answer)


class Text(str):
    """A string of another kind."""


if __name__ == "__main__":
    unittest.main()
