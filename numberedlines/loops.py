"""Where loops begin and end: by their names, in the lines and on the pile."""


def again_behind(program, number, name):
    """The number of the first line behind that is again of the name, or None."""
    for at, statement in program:
        if at > number and statement == ("again", name):
            return at
    return None


def closed_by(pile, name):
    """The pile beneath the topmost loop of the name that is above the topmost call, or None."""
    for height in range(len(pile) - 1, -1, -1):
        frame = pile[height]
        if frame[0] == "call":
            return None
        if frame[1] == name:
            return pile[:height]
    return None
