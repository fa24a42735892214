"""Source trees: small structured programs, their lowering and their runs."""

from guesshush.errors import NotValid
from guesshush.plain import first_state, made, seen_of
from guesshush.programs import ARRAYS, MOST_ROWS, REGISTERS
from guesshush.programs import is_number, is_program, is_row

# How many items each kind of part has.
PARTS = {"do": 2, "if": 5, "loop": 4}

DONE = ("ask", "mix", "load", "mask", "put", "get", "fence")


def is_done(value):
    """True if the value is an instruction of a do."""
    return is_row(value, 0) and value[0] in DONE


def is_part(value):
    """True if the value is a part, whatever stands for its trees."""
    if type(value) is not tuple or len(value) == 0:
        return False
    word = value[0]
    if type(word) is not str or word not in PARTS or len(value) != PARTS[word]:
        return False
    if word == "do":
        return is_done(value[1])
    return is_number(value[1], REGISTERS) and is_number(value[2], ARRAYS)


def are_parts(value):
    """True if the value is a tree, whatever stands for the trees of its parts."""
    return type(value) is tuple and all([is_part(part) for part in value])


def is_tree(value):
    """True if the value is a source tree; it may be anything."""
    # A list of what is still to be read, as a tree may be deeper than calls can be nested.
    waiting = [value]
    while len(waiting) > 0:
        tree = waiting.pop()
        if not are_parts(tree):
            return False
        for part in tree:
            waiting.extend(part[3:])
    return True


def if_rows(part, at):
    """The rows of an if that begins at this place."""
    _, a, array, then, otherwise = part
    first = tree_rows(then, at + 1)
    beginning = at + 1 + len(first) + 1
    second = tree_rows(otherwise, beginning)
    return [("test", a, array, beginning), *first, ("jump", beginning + len(second)), *second]


def loop_rows(part, at):
    """The rows of a loop that begins at this place."""
    _, a, array, body = part
    rows = tree_rows(body, at + 1)
    return [("test", a, array, at + 1 + len(rows) + 1), *rows, ("jump", at)]


def part_rows(part, at):
    """The rows of a part that begins at this place."""
    # Each part has a row before those of its trees, so this also bounds how deep calls are nested.
    if at >= MOST_ROWS:
        raise NotValid()
    if part[0] == "do":
        return [part[1]]
    if part[0] == "if":
        return if_rows(part, at)
    return loop_rows(part, at)


def tree_rows(tree, at):
    """The rows of a tree that begins at this place."""
    if not are_parts(tree):
        raise NotValid()
    rows = []
    for part in tree:
        rows.extend(part_rows(part, at + len(rows)))
    return rows


def lower(tree, secret):
    """The program of a tree, with these secret registers."""
    program = {"secret": secret, "rows": (*tree_rows(tree, 0), ("end",))}
    if not is_program(program):
        raise NotValid()
    return program


def row_of(part):
    """The instruction that a part begins with; its target does not count, as trees have no places."""
    return part[1] if part[0] == "do" else ("test", part[1], part[2], 0)


def next_parts(part, what):
    """The parts that are made behind this one and before those that follow it; what was seen of it tells."""
    if part[0] == "do":
        return ()
    if part[0] == "if":
        return part[3] if what == ("in",) else part[4]
    return (*part[3], part) if what == ("in",) else ()


def run_tree(tree, secret, meaning, secrets, turns):
    """The registers, slots, counts and what is seen; None if it does not end within so many turns."""
    state = first_state({"secret": secret, "rows": ()}, secrets)
    seen = []
    # What is still to be made, the next part last.
    waiting = list(tree[::-1])
    for _ in range(turns):
        if len(waiting) == 0:
            break
        part = waiting.pop()
        row = row_of(part)
        what = seen_of(row, meaning, state)
        if what is not None:
            seen.append(what)
        waiting.extend(next_parts(part, what)[::-1])
        state = made(row, meaning, secrets, state, 0)
    if len(waiting) > 0:
        return None
    return state["registers"], state["slots"], state["counts"], seen
