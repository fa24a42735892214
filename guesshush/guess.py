"""The guessing machine: it runs ahead by guesses, as an attacker directs it."""

from guesshush.errors import NotValid
from guesshush.plain import after_step, first_state, outcome
from guesshush.programs import SLOTS
from guesshush.programs import changed, is_number, item_at, next_place, row_at

MOST_WINDOW = 40

DIRECTIVES = (("step",), ("guess", "in"), ("guess", "out"), ("stale",), ("look",))


class Moment:
    """All that going back takes back: the plain state, what is noted of the slots, the open guesses."""

    def __init__(self, plain, notes, guesses):
        self.plain = plain
        # For each slot (the value before its last put, the instructions since), or None.
        self.notes = notes
        self.guesses = guesses


class Guess:
    """An open guess: the moment before it, its kind, and the number of instructions made since."""

    def __init__(self, before, kind, since):
        self.before = before
        self.kind = kind
        self.since = since


def is_directive(value):
    """True if the value is a directive; it may be anything."""
    if type(value) is not tuple or not all([type(part) is str for part in value]):
        return False
    return value in DIRECTIVES


def next_notes(row, moment):
    """What is noted of the slots behind the instruction."""
    if row[0] == "fence":
        return (None,) * SLOTS
    notes = tuple([None if note is None else (note[0], note[1] + 1) for note in moment.notes])
    if row[0] != "put":
        return notes
    return changed(notes, row[1], (item_at(moment.plain["slots"], row[1]), 0))


def next_moment(row, moment, plain):
    """The moment behind the instruction, which leads to this plain state."""
    guesses = tuple([Guess(guess.before, guess.kind, guess.since + 1) for guess in moment.guesses])
    return Moment(plain, next_notes(row, moment), guesses)


def guessed(row, moment, kind, plain):
    """The moment behind the instruction if this plain state is only guessed."""
    behind = next_moment(row, moment, plain)
    return Moment(plain, behind.notes, behind.guesses + (Guess(moment, kind, 0),))


class Machine:
    """The machine that an attacker directs."""

    def __init__(self, program, meaning, secrets, window):
        if not is_number(window, MOST_WINDOW + 1):
            raise NotValid()
        self._program = program
        self._meaning = meaning
        self._secrets = secrets
        self._window = window
        self._now = Moment(first_state(program, secrets), (None,) * SLOTS, ())
        self._seen = []

    def direct(self, directive):
        """Gives a directive; what was seen, or None if it could not be done."""
        if not is_directive(directive):
            raise NotValid()
        seen = self._look() if directive == ("look",) else self._go_on(directive)
        if seen is not None:
            self._seen.append(seen)
        return seen

    def state(self):
        """The state."""
        return dict(self._now.plain)

    def open_guesses(self):
        """The open guesses, the eldest first: tuples (place, kind, instructions since)."""
        return [(guess.before.plain["place"], guess.kind, guess.since) for guess in self._now.guesses]

    def view(self):
        """What was seen."""
        return list(self._seen)

    def _go_on(self, directive):
        """What is seen of a step, a guess or a stale get; None if it cannot be done."""
        row = row_at(self._program, self._now.plain["place"])
        if row is None or any([guess.since >= self._window for guess in self._now.guesses]):
            return None
        if directive == ("step",):
            return self._step(row)
        if directive == ("stale",):
            return self._stale(row)
        return self._guess(row, directive[1])

    def _step(self, row):
        if row[0] in ("fence", "end") and len(self._now.guesses) > 0:
            return None
        return self._make(row)

    def _make(self, row):
        """Makes the instruction as the plain machine does; what is seen of it."""
        plain, seen = after_step(self._program, self._meaning, self._secrets, self._now.plain)
        self._now = next_moment(row, self._now, plain)
        return seen

    def _guess(self, row, way):
        if row[0] != "test":
            return None
        before = self._now.plain
        plain = {**before, "place": next_place(row, before["place"], way)}
        self._now = guessed(row, self._now, way, plain)
        return before["place"], ("guess", way)

    def _stale(self, row):
        if row[0] != "get":
            return None
        note = item_at(self._now.notes, row[2], None)
        if note is None or note[1] >= self._window:
            return None
        before = self._now.plain
        registers = changed(before["registers"], row[1], note[0])
        plain = {**before, "place": next_place(row, before["place"], None), "registers": registers}
        self._now = guessed(row, self._now, "stale", plain)
        return before["place"], ("stale",)

    def _look(self):
        """What is seen of looking at the youngest open guess; None if there is none."""
        if len(self._now.guesses) == 0:
            return None
        guess = self._now.guesses[-1]
        before = guess.before
        place = before.plain["place"]
        real = outcome(self._program, self._meaning, before.plain)
        if real == guess.kind:
            self._now = Moment(self._now.plain, self._now.notes, self._now.guesses[:-1])
            return place, ("right", real)
        self._now = before
        self._make(row_at(self._program, place))
        return place, ("wrong", "stale" if real is None else real)


def view_of(program, meaning, secrets, window, directives):
    """The view behind a list of directives."""
    machine = Machine(program, meaning, secrets, window)
    for directive in directives:
        machine.direct(directive)
    return machine.view()
