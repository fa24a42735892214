"""Fences: the fewest that make a program accepted, with the paths that show why no fewer do."""

from guesshush.errors import NotValid
from guesshush.programs import is_ascending, row_at, with_fences
from guesshush.states import is_window
from guesshush.tables import follow, follow_to_leak, judge_table, search


def last_put(program, places, slot):
    """Where among the places the last put of the slot stands."""
    return max([k for k, at in enumerate(places) if row_at(program, at)[:2] == ("put", slot)])


def region_along(program, path, states):
    """The region of the path, which leads through these states to a leak; None if it has none."""
    places = [state[0] for state in states]
    guesses = [k for k, label in enumerate(path) if label[0] != ("step",)]
    if len(guesses) == 0:
        return None
    found = places[guesses[0] + 1:]
    for k in guesses:
        if path[k][0] == ("stale",):
            slot = row_at(program, places[k])[2]
            found.extend(places[last_put(program, places[:k], slot) + 1:k + 1])
    return tuple(sorted(set(found)))


def region(program, window, path):
    """The region of a path to a leak; None if it has none."""
    states = follow_to_leak(program, window, path)
    if states is None:
        raise NotValid()
    return region_along(program, path, states)


def without(regions, at):
    """The regions that do not have the place."""
    return [places for places in regions if at not in places]


def beyond(regions, at):
    """What the regions have behind the place."""
    return [tuple([other for other in places if other > at]) for places in regions]


def apart(regions):
    """How many regions, the smallest first, share no place with those that were counted before."""
    many = 0
    taken = []
    for places in sorted(regions, key=len):
        if not any([at in taken for at in places]):
            many += 1
            taken.extend(places)
    return many


def can_hit(regions, many):
    """True if so many places are enough to have one of each region."""
    if len(regions) == 0:
        return many >= 0
    # Regions that share no place take a place each, which ends most of the trying early.
    if apart(regions) > many:
        return False
    left = regions
    for at in min(regions, key=len):
        if can_hit(without(left, at), many - 1):
            return True
        # As it is among none of so many places, it is not tried again beside the others.
        left = [tuple([other for other in places if other != at]) for places in left]
    return False


def first_hitting(regions, many):
    """The least place with which so many places, it the first of them, have one of each region."""
    for at in sorted({other for places in regions for other in places}):
        if can_hit(beyond(without(regions, at), at), many - 1):
            return at
    return None


def least_hitting(regions):
    """The first least tuple of places with one of each region."""
    # No place is in a region without places.
    if not all([len(places) > 0 for places in regions]):
        raise NotValid()
    left = list(regions)
    many = apart(left)
    while not can_hit(left, many):
        many += 1
    found = []
    while len(left) > 0:
        at = first_hitting(left, many)
        found.append(at)
        left = beyond(without(left, at), at)
        many -= 1
    return tuple(found)


def unfenced(fenced, window, fences, path):
    """The path of the program without the fences that goes as this one of the fenced program."""
    # The fences before it have moved each added fence on.
    added = [at + k for k, at in enumerate(fences)]
    states = follow(fenced, window, path)
    return [label for label, state in zip(path, states) if state[0] not in added]


def place(program, window):
    """The fewest fences that make the program accepted, as ("fences", fences, paths, table).

    Otherwise ("none", path) if no fences help, or ("many", ()) if a search gave up.
    """
    paths = []
    regions = []
    while True:
        fences = least_hitting(regions)
        fenced = with_fences(program, list(fences))
        word, found = search(fenced, window)
        if word == "table":
            return ("fences", fences, paths, found)
        if word == "many":
            return ("many", ())
        path = unfenced(fenced, window, fences, found)
        stopping = region(program, window, path)
        if stopping is None:
            return ("none", path)
        paths.append(path)
        regions.append(stopping)


def is_answer(program, value):
    """True if the value has the form of fences, paths and a table that are an answer; it may be anything."""
    if type(value) is not tuple or len(value) != 4 or type(value[0]) is not str:
        return False
    word, fences, paths, _ = value
    if word != "fences" or not is_ascending(fences, len(program["rows"])):
        return False
    return type(paths) is list and all([type(path) is list for path in paths])


def regions_of(program, window, paths):
    """The regions of the paths; None if one of them leads to no leak or has no region."""
    found = []
    for path in paths:
        states = follow_to_leak(program, window, path)
        stopping = None if states is None else region_along(program, path, states)
        if stopping is None:
            return None
        found.append(stopping)
    return found


def judge_fences(program, window, answer):
    """True if the answer tells the fewest fences that make the program accepted; it may be anything."""
    if not is_window(window):
        raise NotValid()
    if not is_answer(program, answer):
        return False
    _, fences, paths, table = answer
    regions = regions_of(program, window, paths)
    if regions is None or can_hit(regions, len(fences) - 1):
        return False
    return judge_table(with_fences(program, list(fences)), window, table)
