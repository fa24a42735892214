"""What the tests of several modules build their inputs with."""

import random

from guesshush.programs import FORMS


def program(*rows, secret=()):
    return {"secret": secret, "rows": rows}


def meaning(first=(), second=(), asked=(), mixed=(), loaded=()):
    """A meaning; first and second are what is in the arrays 0 and 1."""
    return {
        "arrays": ({key: True for key in first}, {key: True for key in second}),
        "asked": list(asked),
        "mixed": list(mixed),
        "loaded": list(loaded),
    }


def secrets(registers=(), loaded=()):
    return {"registers": list(registers), "loaded": list(loaded)}


def state(place, registers=(0, 0, 0, 0), slots=(0, 0), counts=(0, 0, 0)):
    return {"place": place, "registers": registers, "slots": slots, "counts": counts}


# Directives of labels.
STEP = ("step",)
IN = ("guess", "in")
OUT = ("guess", "out")
STALE = ("stale",)

# A load that is guessed to be in its array gives a secret value, by which the next one loads.
GUESSED = program(
    ("ask", 0), ("test", 0, 0, 4), ("load", 2, 0, 0), ("load", 3, 1, 2), ("end",), secret=(1,))
GUESSED_PATH = [(STEP, None), (IN, (0, False)), (STEP, None)]

# A get that is stale gives the secret value which the slot had before its last put.
PUT = program(
    ("put", 0, 1), ("put", 0, 0), ("get", 2, 0), ("load", 3, 1, 2), ("end",), secret=(1,))
PUT_PATH = [(STEP, None), (STEP, None), (STALE, None)]

# A test by a secret value that is known to be in the other array alone; nothing is guessed.
TESTED = program(("mask", 2, 1, 1), ("test", 2, 0, 2), ("end",), secret=(1,))
TESTED_PATH = [(STEP, None)]

# The mask keeps a secret value in the array, so that nothing leaks.
MASKED = program(
    ("ask", 0), ("mask", 2, 0, 1), ("test", 2, 0, 4), ("load", 3, 1, 0), ("end",), secret=(1,))

# Without a bound, and with the bound 0 as well, more than 600 states are met.
MANY = program(
    *(row for r in range(3) for row in (
        ("ask", r), ("test", r, 0, 3 * r + 2), ("test", r, 1, 3 * r + 3))),
    ("put", 0, 0), ("ask", 0), ("test", 0, 0, 12), ("test", 0, 1, 13), ("put", 1, 1), ("ask", 1),
    ("test", 1, 0, 16), ("end",), secret=(3,))

# Values that are no window.
NO_WINDOWS = (-1, -40, True, False, "1", "", 1.0, (), (1,), [], {})


class Wild:
    """What can be neither compared nor hashed nor shown."""

    def __eq__(self, other):
        raise KeyError

    def __repr__(self):
        raise KeyError

    __hash__ = None


def deep(times=20000):
    """A tuple that is deeper than calls can be nested."""
    value = ()
    for _ in range(times):
        value = (value,)
    return value


# What is of another form than tables, attacks and answers.
OTHER_VALUES = (
    None, True, False, 0, 1, -1, 1.5, "", "table", b"", (), [], {}, [[]], [()], [None], (None,), {0: 0}, ([],),
    Wild(), [Wild()], (Wild(),) * 4, deep(), [deep()], (deep(),) * 4, (None,) * 4, [None] * 4, ({}, {}, {}, []),
    ("fences",), ("fences", (), []), ("table", []), ("leak", []), ("many", ()), ("none", []))


class Choices:
    """Inputs that are the same in each run of the tests, chosen by a seed."""

    def __init__(self, seed):
        self.source = random.Random(seed)

    def number(self, below):
        return self.source.randrange(below)

    def one_of(self, values):
        return values[self.number(len(values))]

    def some_of(self, values):
        return tuple(value for value in values if self.number(2))

    def row(self, words, places=1):
        word = self.one_of(words)
        bounds = {"r": 4, "s": 2, "A": 2, "target": places}
        return (word, *(self.number(bounds[kind]) for kind in FORMS[word]))

    def program(self, words, places):
        """A program of so many instructions of these words."""
        rows = [self.row(words, places) for _ in range(places - 1)]
        return program(*rows, self.row(("jump", "end"), places), secret=self.some_of(range(4)))

    def risky(self, places):
        """A program that begins with an ask or two puts and ends with an end; the register 3 is secret."""
        first = self.one_of(([("ask", 0)], [("put", 0, 3), ("put", 0, 0)]))
        words = ("test", "test", "put", "get", "get", "ask", "load", "load", "mask", "mix", "jump")
        rows = [self.row(words, places) for _ in range(places - 1 - len(first))]
        return program(*first, *rows, ("end",), secret=(3,))

    def tree(self, words, depth):
        """A tree of such instructions, with parts that are at most so deep."""
        return tuple(self.part(words, depth) for _ in range(self.number(4)))

    def part(self, words, depth):
        word = self.one_of(("do", "if", "loop")) if depth > 0 else "do"
        if word == "do":
            return ("do", self.row(words))
        trees = [self.tree(words, depth - 1) for _ in range(2 if word == "if" else 1)]
        return (word, self.number(4), self.number(2), *trees)

    def meaning(self):
        """A meaning of small numbers, so that equal ones meet."""
        numbers = range(-2, 8)
        pairs = [(x, y) for x in numbers for y in numbers]
        return meaning(
            self.some_of(numbers), self.some_of(numbers), [self.one_of(numbers) for _ in range(6)],
            [{pair: self.one_of(numbers) for pair in pairs} for _ in range(6)],
            [self.one_of(numbers) for _ in range(6)])

    def secrets(self):
        return secrets([self.number(9) for _ in range(4)], [self.number(9) for _ in range(6)])
