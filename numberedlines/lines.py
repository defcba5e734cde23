"""What a program has: its lines by their numbers."""

from numberedlines.words import is_whole


def has_line(program, thing):
    """Whether it is the number of a line of the program; told of anything."""
    return is_whole(thing) and thing in [line[0] for line in program]


def at_number(lines, number):
    """What stands behind that number, in a program's lines or in its made rows, or None."""
    for at, stands in lines:
        if at == number:
            return stands
    return None


def line_behind(program, number):
    """The next number that there is behind a number, 0 where none is."""
    for at, statement in program:
        if at > number:
            return at
    return 0


def with_entry(entries, entry):
    """The rising tuple of entries with this one, in the place of one that begins alike."""
    others = [other for other in entries if other[0] != entry[0]]
    return tuple(sorted([*others, entry]))
