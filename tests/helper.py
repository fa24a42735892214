"""What the tests of several modules build their inputs with."""

import random

from guesshush.programs import FORMS


def program(*rows, secret=()):
    return {"secret": secret, "rows": rows}


def meaning(first=(), second=(), asked=(), mixed=(), loaded=()):
    """A meaning; first and second are what is in the arrays 0 and 1."""
    return {
        "arrays": ({key: True for key in first}, {key: True for key in second}),
        "asked": list(asked),
        "mixed": list(mixed),
        "loaded": list(loaded),
    }


def secrets(registers=(), loaded=()):
    return {"registers": list(registers), "loaded": list(loaded)}


def state(place, registers=(0, 0, 0, 0), slots=(0, 0), counts=(0, 0, 0)):
    return {"place": place, "registers": registers, "slots": slots, "counts": counts}


class Choices:
    """Inputs that are the same in each run of the tests, chosen by a seed."""

    def __init__(self, seed):
        self.source = random.Random(seed)

    def number(self, below):
        return self.source.randrange(below)

    def one_of(self, values):
        return values[self.number(len(values))]

    def some_of(self, values):
        return tuple(value for value in values if self.number(2))

    def row(self, words, places=1):
        word = self.one_of(words)
        bounds = {"r": 4, "s": 2, "A": 2, "target": places}
        return (word, *(self.number(bounds[kind]) for kind in FORMS[word]))

    def program(self, words, places):
        """A program of so many instructions of these words."""
        rows = [self.row(words, places) for _ in range(places - 1)]
        return program(*rows, self.row(("jump", "end"), places), secret=self.some_of(range(4)))

    def tree(self, words, depth):
        """A tree of such instructions, with parts that are at most so deep."""
        return tuple(self.part(words, depth) for _ in range(self.number(4)))

    def part(self, words, depth):
        word = self.one_of(("do", "if", "loop")) if depth > 0 else "do"
        if word == "do":
            return ("do", self.row(words))
        trees = [self.tree(words, depth - 1) for _ in range(2 if word == "if" else 1)]
        return (word, self.number(4), self.number(2), *trees)

    def meaning(self):
        """A meaning of small numbers, so that equal ones meet."""
        numbers = range(-2, 8)
        pairs = [(x, y) for x in numbers for y in numbers]
        return meaning(
            self.some_of(numbers), self.some_of(numbers), [self.one_of(numbers) for _ in range(6)],
            [{pair: self.one_of(numbers) for pair in pairs} for _ in range(6)],
            [self.one_of(numbers) for _ in range(6)])

    def secrets(self):
        return secrets([self.number(9) for _ in range(4)], [self.number(9) for _ in range(6)])
