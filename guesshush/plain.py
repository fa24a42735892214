"""The plain machine: it makes the instructions of a program one after the other."""

from guesshush.errors import NotValid
from guesshush.programs import SLOTS
from guesshush.programs import asked, changed, first_registers, is_in, item_at
from guesshush.programs import loaded, loaded_secret, mixed, next_place, row_at

# Where the counts have the number of these instructions.
COUNTED = {"ask": 0, "mix": 1, "load": 2}

GIVING = ("ask", "mix", "load", "mask", "get")


def first_state(program, secrets):
    """The state of the machine at first."""
    return {
        "place": 0,
        "registers": tuple(first_registers(program, secrets)),
        "slots": (0,) * SLOTS,
        "counts": (0,) * len(COUNTED),
    }


def value_of(state, r):
    """The value of the register r."""
    return item_at(state["registers"], r)


def outcome_of(row, meaning, state):
    """The outcome of a test on the state."""
    return "in" if is_in(meaning, row[2], value_of(state, row[1])) else "out"


def outcome(program, meaning, state):
    """The outcome of the test at the place of the state; None if there is no test."""
    row = row_at(program, state["place"])
    if row is None or row[0] != "test":
        return None
    return outcome_of(row, meaning, state)


def load_value(row, meaning, secrets, state):
    """What a load gives."""
    k = state["counts"][COUNTED["load"]]
    if is_in(meaning, row[2], value_of(state, row[3])):
        return loaded(meaning, k)
    return loaded_secret(secrets, k)


def given(row, meaning, secrets, state):
    """The value that the register of an ask, mix, load, mask or get gets."""
    word = row[0]
    counts = state["counts"]
    if word == "ask":
        return asked(meaning, counts[COUNTED["ask"]])
    if word == "mix":
        return mixed(meaning, counts[COUNTED["mix"]], value_of(state, row[2]), value_of(state, row[3]))
    if word == "load":
        return load_value(row, meaning, secrets, state)
    if word == "mask":
        value = value_of(state, row[3])
        return value if is_in(meaning, row[2], value) else 0
    return item_at(state["slots"], row[2])


def next_registers(row, meaning, secrets, state):
    """The registers behind the instruction."""
    if row[0] not in GIVING:
        return state["registers"]
    return changed(state["registers"], row[1], given(row, meaning, secrets, state))


def next_slots(row, state):
    """The slots behind the instruction."""
    if row[0] != "put":
        return state["slots"]
    return changed(state["slots"], row[1], value_of(state, row[2]))


def next_counts(row, state):
    """The counts behind the instruction."""
    counts = state["counts"]
    if row[0] not in COUNTED:
        return counts
    at = COUNTED[row[0]]
    return changed(counts, at, counts[at] + 1)


def seen_of(row, meaning, state):
    """What an attacker sees of the instruction, without its place."""
    if row[0] == "load":
        return ("at", row[2], value_of(state, row[3]))
    if row[0] == "test":
        return (outcome_of(row, meaning, state),)
    return None


def made(row, meaning, secrets, state, place):
    """The state behind the instruction, which goes on at this place."""
    return {
        "place": place,
        "registers": next_registers(row, meaning, secrets, state),
        "slots": next_slots(row, state),
        "counts": next_counts(row, state),
    }


def after_step(program, meaning, secrets, state):
    """The state behind the instruction at the place, and what is seen of it."""
    place = state["place"]
    row = row_at(program, place)
    if row is None:
        raise NotValid()
    behind = next_place(row, place, outcome(program, meaning, state))
    return made(row, meaning, secrets, state, behind), (place, seen_of(row, meaning, state))


def run(program, meaning, secrets, steps):
    """The state and the view behind so many steps, or less if the end is reached."""
    state = first_state(program, secrets)
    view = []
    for _ in range(steps):
        if row_at(program, state["place"]) is None:
            break
        state, seen = after_step(program, meaning, secrets, state)
        view.append(seen)
    return state, view
