"""Attacks: what a refused program is run with so that an attacker sees which secrets it has."""

from guesshush.errors import NotValid
from guesshush.guess import MOST_WINDOW
from guesshush.guess import is_directive, view_of
from guesshush.plain import GIVING
from guesshush.programs import ARRAYS, SLOTS
from guesshush.programs import are_secrets, changed, first_registers, is_meaning, is_number, item_at, row_at
from guesshush.states import ASKING
from guesshush.states import kind_of
from guesshush.tables import follow_to_leak

# What is never given another value is 0 for both secrets.
ZEROS = (0, 0)


class Trail:
    """The numbers of the values along a path, and the meaning and the secrets that give them.

    A value is the pair of its numbers for the one and for the other secrets.
    """

    def __init__(self, program, missing):
        # A secret number and the array that it is not in, as (array, number); or None.
        self.missing = missing
        # What is in the arrays, as (array, number).
        self.inside = {}
        self.last = 0
        self.asked = []
        self.mixed = []
        self.loaded = []
        pairs = [self.new_secret() for _ in program["secret"]]
        self.one = {"registers": [one for one, _ in pairs], "loaded": []}
        self.other = {"registers": [other for _, other in pairs], "loaded": []}
        self.registers = tuple(zip(first_registers(program, self.one), first_registers(program, self.other)))
        self.slots = (ZEROS,) * SLOTS
        # What the slots had before their last puts.
        self.olds = (ZEROS,) * SLOTS

    def new_number(self):
        self.last += 1
        return self.last

    def new_public(self):
        number = self.new_number()
        return number, number

    def new_secret(self):
        pair = (self.new_number(), self.new_number())
        for number in pair:
            for array in range(ARRAYS):
                if (array, number) != self.missing:
                    self.inside[array, number] = True
        return pair

    def value_of(self, r):
        """The value of the register r."""
        return item_at(self.registers, r, ZEROS)

    def go(self, row, label, behind):
        """Makes the instruction by the label of its step; behind is the state behind it."""
        directive, fact = label
        if fact is not None and fact[1]:
            number = self.value_of(row[ASKING[row[0]]])[0]
            self.inside[fact[0], number] = True
        if row[0] == "put":
            self.olds = changed(self.olds, row[1], item_at(self.slots, row[1], ZEROS))
            self.slots = changed(self.slots, row[1], self.value_of(row[2]))
        elif row[0] in GIVING:
            secret = kind_of(behind, row[1])[0] == "secret"
            self.registers = changed(self.registers, row[1], self.given(row, directive, secret))

    def given(self, row, directive, secret):
        """The value that the register of an ask, mix, load, mask or get gets, which is secret or not."""
        if row[0] == "mask":
            return tuple([self.masked(row[2], number) for number in self.value_of(row[3])])
        if row[0] == "get":
            return item_at(self.olds if directive == ("stale",) else self.slots, row[2], ZEROS)
        pair = self.new_secret() if secret else self.new_public()
        if row[0] == "ask":
            self.asked.append(pair[0])
        elif row[0] == "mix":
            # If nothing secret is mixed, the two keys are the same, and so are their numbers.
            keys = list(zip(self.value_of(row[2]), self.value_of(row[3])))
            self.mixed.append(dict(zip(keys, pair)))
        else:
            self.loaded.append(0 if secret else pair[0])
            self.one["loaded"].append(pair[0] if secret else 0)
            self.other["loaded"].append(pair[1] if secret else 0)
        return pair

    def masked(self, array, number):
        """What a mask by the array makes of the number."""
        return number if (array, number) in self.inside else 0

    def meaning(self):
        """The meaning that gives the numbers."""
        arrays = [{number: True for at, number in self.inside if at == array} for array in range(ARRAYS)]
        return {"arrays": tuple(arrays), "asked": self.asked, "mixed": self.mixed, "loaded": self.loaded}


def trail_of(program, path, states, missing):
    """The trail along the path, which leads through these states."""
    trail = Trail(program, missing)
    for label, state, behind in zip(path, states, states[1:]):
        trail.go(row_at(program, state[0]), label, behind)
    return trail


def attack_of(program, window, path):
    """The attack that is made from a path to a leak."""
    states = follow_to_leak(program, window, path)
    if states is None:
        raise NotValid()
    trail = trail_of(program, path, states, None)
    leak = row_at(program, states[-1][0])
    if leak[0] == "test":
        # As long as all secret numbers are in all arrays, masks keep them: this is still the number
        # that the value had when it was new.
        number = trail.value_of(leak[1])[1]
        trail = trail_of(program, path, states, (leak[2], number))
    directives = [directive for directive, _ in path]
    return trail.meaning(), trail.one, trail.other, [*directives, ("step",)]


def is_attack(value):
    """True if the value has the form of an attack; it may be anything."""
    if type(value) is not tuple or len(value) != 4:
        return False
    meaning, one, other, directives = value
    if not is_meaning(meaning) or not are_secrets(one) or not are_secrets(other):
        return False
    return type(directives) is list and all([is_directive(directive) for directive in directives])


def judge_attack(program, window, attack):
    """True if the views of the attack's two secrets differ; the attack may be anything."""
    if not is_number(window, MOST_WINDOW + 1):
        raise NotValid()
    if not is_attack(attack):
        return False
    meaning, one, other, directives = attack
    return view_of(program, meaning, one, window, directives) != view_of(program, meaning, other, window, directives)
