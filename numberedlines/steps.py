"""What is alike in every way of doing lines step by step."""

from numberedlines.states import first_state, part_of
from numberedlines.traps import fault_at


def is_going(state):
    return part_of(state, "stand") == "going"


def known_of(state):
    """What expressions are reckoned by: a tuple (boxes, rows, fits, fault)."""
    fits = {name: (box, expression) for name, box, expression in part_of(state, "fits")}
    return (dict(part_of(state, "boxes")), dict(part_of(state, "rows")), fits, part_of(state, "fault"))


def settled(program, state, told):
    """The state behind the line at which it was, of which ("state", state) or ("fault", word) is told."""
    if told[0] == "fault":
        return fault_at(program, state, told[1], part_of(state, "at"))
    return told[1]


def begun_at(program, state):
    """The told state, or the first one where none is told."""
    return first_state(program) if state is None else state


def walked(next_state, state, most):
    """The state when it isn't going any more, or as many steps as told are done, and how many were."""
    steps = 0
    while steps < most and is_going(state):
        state = next_state(state)
        steps += 1
    return (state, steps)
