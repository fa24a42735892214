"""What the tests of several modules build their inputs with."""


def program(*rows, secret=()):
    return {"secret": secret, "rows": rows}


def meaning(first=(), second=(), asked=(), mixed=(), loaded=()):
    """A meaning; first and second are what is in the arrays 0 and 1."""
    return {
        "arrays": ({key: True for key in first}, {key: True for key in second}),
        "asked": list(asked),
        "mixed": list(mixed),
        "loaded": list(loaded),
    }


def secrets(registers=(), loaded=()):
    return {"registers": list(registers), "loaded": list(loaded)}


def state(place, registers=(0, 0, 0, 0), slots=(0, 0), counts=(0, 0, 0)):
    return {"place": place, "registers": registers, "slots": slots, "counts": counts}
