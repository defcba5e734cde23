"""Where data is read on."""


def next_data(program, place):
    """The next worth of data from a place on and the place behind it, or None."""
    number, read = place
    for at, statement in program:
        if statement[0] == "data" and at >= number:
            worths = statement[1]
            # How many of this line's worths were read: only the place's own line was begun.
            start = read if at == number else 0
            if start < len(worths):
                return (worths[start], (at, start + 1))
    return None
