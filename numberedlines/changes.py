"""Lines changed amid a run."""

from numberedlines.errors import NoChange, NoLine
from numberedlines.lines import has_line, line_behind
from numberedlines.renumber import merged
from numberedlines.states import frame_number, part_of, state_with
from numberedlines.words import is_line, is_whole


def is_change(thing):
    """Whether it is a change of a program; told of anything."""
    if not isinstance(thing, tuple) or len(thing) != 2:
        return False
    word, part = thing
    return (word == "put" and is_line(part)) or (word == "strike" and is_whole(part))


def changed(program, change):
    """The program behind the change."""
    if not is_change(change):
        raise NoChange()
    word, part = change
    if word == "put":
        return merged(program, (part,))
    if not has_line(program, part):
        raise NoLine(part)
    return tuple([line for line in program if line[0] != part])


def changed_state(program, state, change):
    """The state behind the change, of the program ahead of it."""
    new = changed(program, change)
    if new == program:
        return state
    word, part = change
    if word == "put":
        return still_at(new, without_frames(state, part[0]))
    trap = part_of(state, "trap")
    return still_at(new, state_with(without_frames(state, part), trap=0 if trap == part else trap))


def without_frames(state, number):
    """The state without the lowest frame of that line and all above it."""
    pile = part_of(state, "pile")
    numbers = [frame_number(frame) for frame in pile]
    return state_with(state, pile=pile[:numbers.index(number)]) if number in numbers else state


def still_at(program, state):
    """The state at its line, or at the next one that the program has: ended where none is."""
    at = part_of(state, "at")
    if has_line(program, at):
        return state
    # At 0 no line was next ahead of the change, so none is next behind it.
    next_at = 0 if at == 0 else line_behind(program, at)
    if next_at != 0 or part_of(state, "stand") == "faulted":
        return state_with(state, at=next_at)
    return state_with(state, stand="ended", at=0)
