"""The states of a program: the first one, and whether a thing is one."""

from numberedlines.errors import NoLine
from numberedlines.lines import has_line
from numberedlines.words import (
    MOST_SAID,
    is_expression,
    is_line_number,
    is_line_number_or_nought,
    is_name,
    is_number_worth,
    is_tuple_of,
    is_whole,
    is_worth,
    rises,
)

PARTS = (
    "stand", "at", "boxes", "rows", "fits", "pile", "place", "trap", "trapped", "fault", "asked", "said",
)
STANDS = ("going", "stopped", "asks", "ended", "faulted")
FAULT_WORDS = (
    "empty", "norow", "kind", "range", "nought", "nofit", "deep", "great", "long",
    "noline", "pile", "back", "again", "data", "trap",
)
MOST_FRAMES = 50
LONGEST_ROW = 100


def first_state(program, *, first=None):
    """The state in which a program begins, at its first line or at a told one."""
    if first is not None and not has_line(program, first):
        raise NoLine(first if is_whole(first) else None)
    if len(program) == 0:
        return begun("ended", 0)
    return begun("going", program[0][0] if first is None else first)


def begun(stand, at):
    """A state in which nothing was done yet."""
    return (stand, at, (), (), (), (), (0, 0), 0, False, None, 0, ())


def part_of(state, name):
    return state[PARTS.index(name)]


def state_with(state, **new):
    """The state, with new ones in the place of the parts that are named."""
    return tuple([new.get(name, part) for name, part in zip(PARTS, state)])


def frame_number(frame):
    """The number of the line that laid the frame."""
    return frame[1] if frame[0] == "call" else frame[2]


def is_state(program, thing):
    """Whether it is a state of the program, by its form; told of anything."""
    if not isinstance(thing, tuple) or len(thing) != len(PARTS):
        return False
    stand, at, boxes, rows, fits, pile, place, trap, trapped, fault, asked, said = thing
    return (
        is_stand_at(program, stand, at)
        and are_by_names(boxes, is_box)
        and are_by_names(rows, is_row)
        and are_by_names(fits, is_fit)
        and is_pile(pile)
        and is_place(place)
        and is_line_number_or_nought(trap)
        and isinstance(trapped, bool)
        and is_fault_or_none(fault)
        and is_from_nought(asked)
        and is_tuple_of(said, is_said_once)
    )


def is_stand_at(program, stand, at):
    """Whether a state of the program can so stand at that number."""
    if stand not in STANDS or not is_whole(at):
        return False
    if at == 0:
        return stand in ("ended", "faulted") or len(program) == 0
    return stand != "ended" and has_line(program, at)


def are_by_names(thing, test):
    """Whether it is a tuple of such tuples, the names that they begin with rising."""
    return is_tuple_of(thing, test) and rises([named[0] for named in thing])


def is_box(thing):
    return isinstance(thing, tuple) and len(thing) == 2 and is_name(thing[0]) and is_worth(thing[1])


def is_row(thing):
    if not isinstance(thing, tuple) or len(thing) != 2 or not is_name(thing[0]):
        return False
    return is_tuple_of(thing[1], is_worth) and 1 <= len(thing[1]) <= LONGEST_ROW


def is_fit(thing):
    if not isinstance(thing, tuple) or len(thing) != 3:
        return False
    return is_name(thing[0]) and is_name(thing[1]) and is_expression(thing[2])


def is_pile(thing):
    return is_tuple_of(thing, is_frame) and len(thing) <= MOST_FRAMES


def is_frame(thing):
    return is_call_frame(thing) or is_loop_frame(thing)


def is_call_frame(thing):
    if not isinstance(thing, tuple) or len(thing) != 2:
        return False
    return thing[0] == "call" and is_line_number(thing[1])


def is_loop_frame(thing):
    if not isinstance(thing, tuple) or len(thing) != 5:
        return False
    word, name, number, to, by = thing
    if word != "loop" or not is_name(name) or not is_line_number(number):
        return False
    return is_number_worth(to) and is_number_worth(by) and by != 0


def is_place(thing):
    if not isinstance(thing, tuple) or len(thing) != 2:
        return False
    return is_line_number_or_nought(thing[0]) and is_from_nought(thing[1])


def is_from_nought(thing):
    return is_whole(thing) and thing >= 0


def is_fault_or_none(thing):
    if thing is None:
        return True
    if not isinstance(thing, tuple) or len(thing) != 2:
        return False
    return thing[0] in FAULT_WORDS and is_line_number(thing[1])


def is_said_once(thing):
    return is_tuple_of(thing, is_worth) and len(thing) <= MOST_SAID
