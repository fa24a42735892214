"""Programs, and the meanings and secrets that they are run with."""

REGISTERS = 4
SLOTS = 2
ARRAYS = 2
MOST_ROWS = 32

# What stands behind the word of each instruction.
FORMS = {
    "ask": ("r",),
    "mix": ("r", "r", "r"),
    "load": ("r", "A", "r"),
    "mask": ("r", "A", "r"),
    "test": ("r", "A", "target"),
    "put": ("s", "r"),
    "get": ("r", "s"),
    "fence": (),
    "jump": ("target",),
    "end": (),
}


def is_natural(value):
    """True if the value is an integer from 0 on."""
    # isinstance would take True and False, which are not used as integers.
    return type(value) is int and value >= 0


def is_number(value, bound):
    """True if the value is an integer from 0 on and below the bound."""
    return is_natural(value) and value < bound


def is_ascending(value, bound):
    """True if the value is a tuple of ascending numbers below the bound, each once."""
    if type(value) is not tuple:
        return False
    if not all([is_number(number, bound) for number in value]):
        return False
    return all([low < high for low, high in zip(value, value[1:])])


def bound_of(kind, places):
    """How many numbers there are for a part of this kind, in a program with so many places."""
    bounds = {"r": REGISTERS, "s": SLOTS, "A": ARRAYS, "target": places}
    return bounds[kind]


def is_row(value, places):
    """True if the value is an instruction of a program with so many places."""
    if type(value) is not tuple or len(value) == 0:
        return False
    word = value[0]
    if type(word) is not str or word not in FORMS:
        return False
    kinds = FORMS[word]
    if len(value) != len(kinds) + 1:
        return False
    return all([is_number(part, bound_of(kind, places)) for part, kind in zip(value[1:], kinds)])


def are_rows(value):
    """True if the value is the tuple of the instructions of a program."""
    if type(value) is not tuple or not 1 <= len(value) <= MOST_ROWS:
        return False
    if not all([is_row(row, len(value)) for row in value]):
        return False
    return value[-1][0] in ("jump", "end")


def has_keys(value, names):
    """True if the value is a dict with these keys, which are strings in ascending order."""
    if type(value) is not dict:
        return False
    # Only strings can be sorted together for sure, so other keys are refused first.
    return all([type(key) is str for key in value]) and sorted(value) == names


def is_program(value):
    """True if the value is a program; it may be anything."""
    if not has_keys(value, ["rows", "secret"]):
        return False
    return is_ascending(value["secret"], REGISTERS) and are_rows(value["rows"])


def are_integers(values):
    """True if all of these values are integers."""
    return all([type(value) is int for value in values])


def is_integer_list(value):
    """True if the value is a list of integers."""
    return type(value) is list and are_integers(value)


def is_array(value):
    """True if the value is a dict whose keys are the integers that are in an array."""
    return type(value) is dict and are_integers(list(value))


def is_pair(value):
    """True if the value is a tuple of two integers."""
    return type(value) is tuple and len(value) == 2 and are_integers(value)


def is_mixing(value):
    """True if the value is a dict of what a mixing makes of pairs."""
    if type(value) is not dict or not all([is_pair(pair) for pair in value]):
        return False
    return are_integers(list(value.values()))


def is_meaning(value):
    """True if the value is a meaning; it may be anything."""
    if not has_keys(value, ["arrays", "asked", "loaded", "mixed"]):
        return False
    arrays = value["arrays"]
    if type(arrays) is not tuple or len(arrays) != ARRAYS or not all([is_array(array) for array in arrays]):
        return False
    tables = value["mixed"]
    if type(tables) is not list or not all([is_mixing(table) for table in tables]):
        return False
    return is_integer_list(value["asked"]) and is_integer_list(value["loaded"])


def are_secrets(value):
    """True if the value is secrets, of whichever program; it may be anything."""
    if not has_keys(value, ["loaded", "registers"]):
        return False
    return is_integer_list(value["loaded"]) and is_integer_list(value["registers"])


def item_at(values, k, otherwise=0):
    """The value with the number k; what is said otherwise if there is none."""
    # A negative index would count from the end.
    return values[k] if 0 <= k < len(values) else otherwise


def changed(values, at, value):
    """The tuple with this value at the index."""
    return tuple([value if k == at else old for k, old in enumerate(values)])


def row_at(program, place):
    """The instruction at the place; None if there is none."""
    return None if place is None else item_at(program["rows"], place, None)


def next_place(row, place, way):
    """The place behind the instruction, None behind an end; the way counts if it is a test."""
    word = row[0]
    if word == "end":
        return None
    if word == "jump":
        return row[1]
    if word == "test" and way == "out":
        return row[3]
    return place + 1


def is_in(meaning, array, value):
    """True if the value is in the array."""
    if value == 0:
        return True
    arrays = meaning["arrays"]
    return 0 <= array < len(arrays) and value in arrays[array]


def asked(meaning, k):
    """The public input with the number k."""
    return item_at(meaning["asked"], k)


def mixed(meaning, k, x, y):
    """What the mixing with the number k makes of x and y."""
    tables = meaning["mixed"]
    if not 0 <= k < len(tables):
        return 0
    return tables[k].get((x, y), 0)


def loaded(meaning, k):
    """The public value of the load with the number k."""
    return item_at(meaning["loaded"], k)


def loaded_secret(secrets, k):
    """The secret value of the load with the number k."""
    return item_at(secrets["loaded"], k)


def first_registers(program, secrets):
    """The values of the registers at first."""
    secret = program["secret"]
    values = secrets["registers"]
    return [item_at(values, secret.index(r)) if r in secret else 0 for r in range(REGISTERS)]


def fenced_target(target, fenced):
    """Where the target stands in the program with fences at these places."""
    # The fence of the target itself is not skipped: what led to the target leads to it.
    return target + len([place for place in fenced if place < target])


def fenced_row(row, fenced):
    """The instruction as it stands in the program with fences at these places."""
    if row[0] == "test":
        return ("test", row[1], row[2], fenced_target(row[3], fenced))
    if row[0] == "jump":
        return ("jump", fenced_target(row[1], fenced))
    return row


def with_fences(program, places):
    """The program with a fence in front of each of these places."""
    rows = program["rows"]
    fenced = [place for place in range(len(rows)) if place in places]
    made = []
    for place, row in enumerate(rows):
        if place in fenced:
            made.append(("fence",))
        made.append(fenced_row(row, fenced))
    return {"secret": program["secret"], "rows": tuple(made)}
