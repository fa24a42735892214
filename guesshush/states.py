"""States: what the guessing machine may have come to, for all meanings, secrets and attackers at once."""

from guesshush.errors import NotValid
from guesshush.plain import GIVING
from guesshush.programs import ARRAYS, REGISTERS, SLOTS
from guesshush.programs import changed, is_ascending, is_natural, item_at, next_place, row_at

ZERO = ("zero",)
SECRET = ("secret", ())

# Where the instructions that ask whether a value is in an array have the value's register.
ASKING = {"load": 3, "mask": 3, "test": 1}


def is_window(value):
    """True if the value is a window: an integer from 0 on, or None for no bound."""
    return value is None or is_natural(value)


def is_kind(value):
    """True if the value is the kind of a value; it may be anything."""
    if type(value) is not tuple or len(value) == 0 or type(value[0]) is not str:
        return False
    if value[0] == "zero":
        return len(value) == 1
    if len(value) != 2:
        return False
    if value[0] == "secret":
        return is_ascending(value[1], ARRAYS)
    return value[0] == "public" and is_natural(value[1])


def is_slot(value):
    """True if the value is what a state has for a slot."""
    if type(value) is not tuple or len(value) != 3:
        return False
    present, old, age = value
    if not is_kind(present) or not is_kind(old):
        return False
    return old == ZERO if age is None else is_natural(age)


def are_facts(value):
    """True if the value is the tuple of the facts of some public values."""
    if type(value) is not tuple:
        return False
    if not all([type(told) is tuple and len(told) == ARRAYS for told in value]):
        return False
    # With == the numbers 1 and 0 would be taken as well.
    return all([fact is None or fact is True or fact is False for told in value for fact in told])


def public_numbers(registers, slots):
    """The numbers of the public values, in the order in which they stand first."""
    kinds = list(registers)
    for present, old, _ in slots:
        kinds.extend([present, old])
    numbers = []
    for kind in kinds:
        if kind[0] == "public" and kind[1] not in numbers:
            numbers.append(kind[1])
    return numbers


def is_state(value):
    """True if the value has the form of a state; it may be anything."""
    if type(value) is not tuple or len(value) != 5:
        return False
    place, registers, slots, facts, depth = value
    if not is_natural(place) or not (depth is None or is_natural(depth)):
        return False
    if type(registers) is not tuple or len(registers) != REGISTERS:
        return False
    if type(slots) is not tuple or len(slots) != SLOTS:
        return False
    if not all([is_kind(kind) for kind in registers]) or not all([is_slot(slot) for slot in slots]):
        return False
    return are_facts(facts) and public_numbers(registers, slots) == list(range(len(facts)))


def renamed(kind, numbers):
    """The kind if the public values with these numbers are numbered from 0."""
    return ("public", numbers.index(kind[1])) if kind[0] == "public" else kind


def numbered(place, registers, slots, facts, depth):
    """The state of these parts, its public values in their order and the others forgotten."""
    numbers = public_numbers(registers, slots)
    return (
        place,
        tuple([renamed(kind, numbers) for kind in registers]),
        tuple([(renamed(present, numbers), renamed(old, numbers), age) for present, old, age in slots]),
        tuple([facts[number] for number in numbers]),
        depth,
    )


def first_state(program):
    """The first state."""
    secret = program["secret"]
    registers = tuple([SECRET if r in secret else ZERO for r in range(REGISTERS)])
    return (0, registers, ((ZERO, ZERO, None),) * SLOTS, (), None)


def kind_of(state, r):
    """The kind of the register r."""
    return item_at(state[1], r, ZERO)


def made_row(program, state, window):
    """The instruction that can be made at the state; None if there is none."""
    row = row_at(program, state[0])
    depth = state[4]
    if row is None or row[0] == "end":
        return None
    if depth is None:
        return row
    if row[0] == "fence" or (window is not None and depth >= window):
        return None
    return row


def shows_secret(row, state):
    """True if the instruction is a load by a secret value, or a test of which the array is not known."""
    if row[0] == "load":
        return kind_of(state, row[3])[0] == "secret"
    if row[0] != "test":
        return False
    kind = kind_of(state, row[1])
    return kind[0] == "secret" and row[2] not in kind[1]


def is_leak(program, state, window):
    """True if the state is a leak."""
    if not is_window(window):
        raise NotValid()
    row = made_row(program, state, window)
    return row is not None and shows_secret(row, state)


def with_fact(facts, number, array, truth):
    """The facts if it is so that the public value is in the array, or that it is not."""
    return changed(facts, number, changed(facts[number], array, truth))


def cases(row, state):
    """What the facts may be: the truth that the instruction asks for, the label's fact, all facts behind."""
    facts = state[3]
    if row[0] not in ASKING:
        return [(True, None, facts)]
    array = row[2]
    kind = kind_of(state, row[ASKING[row[0]]])
    if kind[0] != "public":
        return [(kind == ZERO or array in kind[1], None, facts)]
    number = kind[1]
    known = item_at(facts[number], array, None)
    if known is not None:
        return [(known, None, facts)]
    return [(truth, (array, truth), with_fact(facts, number, array, truth)) for truth in (True, False)]


def masked(kind, array, truth):
    """The kind of what a mask gives."""
    if kind[0] == "public":
        return kind if truth else ZERO
    if kind[0] == "zero" or array in kind[1]:
        return kind
    return ("secret", tuple(sorted([*kind[1], array])))


def given(row, state, truth):
    """The kind that the register of an ask, mix, load, mask or get gets."""
    # The numbers of the state end before this one.
    new = ("public", len(state[3]))
    word = row[0]
    if word == "mix":
        return SECRET if "secret" in (kind_of(state, row[2])[0], kind_of(state, row[3])[0]) else new
    if word == "load":
        return new if truth else SECRET
    if word == "mask":
        return masked(kind_of(state, row[3]), row[2], truth)
    if word == "get":
        return slot_of(state, row[2])[0]
    return new


def slot_of(state, s):
    """What the state has for the slot."""
    return item_at(state[2], s, (ZERO, ZERO, None))


def bounded(present, old, age, window):
    """What a state has for a slot of this age, which the bound may have ended."""
    if age is None or (window is not None and age >= window):
        return (present, ZERO, None)
    return (present, old, 0 if window is None else age)


def next_slot(row, state, window, s):
    """What the state behind the instruction has for the slot."""
    present, old, age = state[2][s]
    if row[0] == "fence":
        return (present, ZERO, None)
    if row[0] == "put" and row[1] == s:
        return bounded(kind_of(state, row[2]), present, 0, window)
    return bounded(present, old, None if age is None else age + 1, window)


def deeper(depth, window):
    """The depth behind one more instruction."""
    if depth is None:
        return None
    return 0 if window is None else depth + 1


def opened(depth, window):
    """The depth behind an instruction that opens a wrong guess."""
    return 0 if depth is None else deeper(depth, window)


def real_step(row, state, truth):
    """The place and the registers behind the instruction as it really is."""
    place = next_place(row, state[0], "in" if truth else "out")
    if row[0] not in GIVING:
        return place, state[1]
    return place, changed(state[1], row[1], given(row, state, truth))


def wrong_guess(row, state, window, truth):
    """The directive of the wrong guess of the instruction, with the place and the registers behind it, or None."""
    place, registers = state[0], state[1]
    if row[0] == "test" and window != 0:
        way = "out" if truth else "in"
        return ("guess", way), next_place(row, place, way), registers
    if row[0] != "get":
        return None
    _, old, age = slot_of(state, row[2])
    if age is None or (window is not None and age >= window):
        return None
    return ("stale",), next_place(row, place, None), changed(registers, row[1], old)


def steps(program, state, window):
    """The steps from the state: tuples (label, next state)."""
    if not is_window(window):
        raise NotValid()
    row = made_row(program, state, window)
    if row is None or shows_secret(row, state):
        return []
    slots = [next_slot(row, state, window, s) for s in range(SLOTS)]
    depth = state[4]
    found = []
    for truth, fact, facts in cases(row, state):
        # Behind the others stands what a new public value begins with; it is forgotten if there is none.
        told = facts + ((None,) * ARRAYS,)
        place, registers = real_step(row, state, truth)
        found.append(((("step",), fact), numbered(place, registers, slots, told, deeper(depth, window))))
        guess = wrong_guess(row, state, window, truth)
        if guess is not None:
            directive, place, registers = guess
            found.append(((directive, fact), numbered(place, registers, slots, told, opened(depth, window))))
    return found
