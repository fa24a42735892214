"""Tables: closed lists of states without a leak, by which a program is accepted, and the search for them."""

from guesshush.errors import NotValid
from guesshush.guess import is_directive
from guesshush.programs import is_natural
from guesshush.states import first_state, is_leak, is_state, is_window, steps

MOST_STATES = 600

# Python writes out no numbers of more than 4300 digits, which are a little more bits than these.
MOST_BITS = 14000


def text_of(state):
    """The text by which states are ordered."""
    return repr(state)


def path_to(met, state):
    """The labels of the steps by which the state was met first."""
    path = []
    before = met[state]
    while before is not None:
        state, label = before
        path.append(label)
        before = met[state]
    return path[::-1]


def search(program, window):
    """What the search finds: ("table", table), ("leak", path), or ("many", ()) if it gives up."""
    first = first_state(program)
    if is_leak(program, first, window):
        return ("leak", [])
    # For each state the state and the label that led to it first.
    met = {first: None}
    level = [first]
    while len(level) > 0:
        further = []
        for state in level:
            for label, behind in steps(program, state, window):
                if behind in met:
                    continue
                met[behind] = (state, label)
                if len(met) > MOST_STATES:
                    return ("many", ())
                if is_leak(program, behind, window):
                    return ("leak", path_to(met, behind))
                further.append(behind)
        level = further
    return ("table", sorted(list(met), key=text_of))


def is_accepted(program, window):
    """True if there is a table for the program and the window, False if not, None if the search gave up."""
    word = search(program, window)[0]
    return None if word == "many" else word == "table"


def has_text(state):
    """True if the ages and the depth of the state can be written out."""
    numbers = [state[4], *[slot[2] for slot in state[2]]]
    return all([number is None or number.bit_length() <= MOST_BITS for number in numbers])


def is_state_of(program, value):
    """True if the value is a state at a place of the program; it may be anything."""
    return is_state(value) and value[0] < len(program["rows"]) and has_text(value)


def are_ascending(table):
    """True if the texts of the states are ascending, each once."""
    texts = [text_of(state) for state in table]
    return all([low < high for low, high in zip(texts, texts[1:])])


def is_closed(program, window, table):
    """True if each step of one of these states leads to one of them, and none is a leak."""
    known = set(table)
    for state in table:
        if is_leak(program, state, window):
            return False
        for _, behind in steps(program, state, window):
            if behind not in known:
                return False
    return True


def judge_table(program, window, table):
    """True if the value is a table for the program and the window; it may be anything."""
    if not is_window(window):
        raise NotValid()
    if type(table) is not list or not all([is_state_of(program, value) for value in table]):
        return False
    if first_state(program) not in table or not are_ascending(table):
        return False
    return is_closed(program, window, table)


def is_fact(value):
    """True if the value is the fact of a label that asks for one; it may be anything."""
    if type(value) is not tuple or len(value) != 2 or not is_natural(value[0]):
        return False
    return value[1] is True or value[1] is False


def is_label(value):
    """True if the value has the form of a label; it may be anything."""
    if type(value) is not tuple or len(value) != 2 or not is_directive(value[0]):
        return False
    return value[1] is None or is_fact(value[1])


def behind_label(program, window, state, label):
    """The state behind the step with this label; None if there is none."""
    # By == alone, 1 would be taken for True.
    if not is_label(label):
        return None
    for told, behind in steps(program, state, window):
        if told == label:
            return behind
    return None


def follow(program, window, path):
    """The states along the path, the first state first; None if some label is none of a step there."""
    if not is_window(window):
        raise NotValid()
    state = first_state(program)
    states = [state]
    for label in path:
        state = behind_label(program, window, state, label)
        if state is None:
            return None
        states.append(state)
    return states


def follow_to_leak(program, window, path):
    """The states along the path, the leak last; None if the path does not lead to a leak."""
    states = follow(program, window, path)
    if states is None or not is_leak(program, states[-1], window):
        return None
    return states


def least_window(program):
    """The least window of a refused program; None if it is accepted without a bound, -1 if a search gave up."""
    word = search(program, None)[0]
    if word == "table":
        return None
    window = 0
    while word != "many":
        word = search(program, window)[0]
        if word == "leak":
            return window
        window += 1
    return -1
