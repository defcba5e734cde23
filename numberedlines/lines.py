"""What a program has: its lines by their numbers."""

from numberedlines.words import is_whole


def has_line(program, thing):
    """Whether it is the number of a line of the program; told of anything."""
    return is_whole(thing) and thing in [line[0] for line in program]
