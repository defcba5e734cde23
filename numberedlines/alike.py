"""Whether two programs come to the same by all inputs of a told class."""

from numberedlines.states import part_of
from numberedlines.steps import is_going
from numberedlines.tries import lists_to_try
from numberedlines.walk import walk
from numberedlines.words import is_just


def held(one, other, *, worths=(0, 1), most_inputs=2, most=200):
    """What comes of holding two programs together: ("apart", inputs), ("open", inputs) or ("alike", many)."""
    lists = lists_to_try(worths, most_inputs)
    cut = None
    for inputs in lists:
        ends = [outcome(program, inputs, most) for program in (one, other)]
        if None in ends:
            cut = inputs if cut is None else cut
        elif ends[0] != ends[1]:
            return ("apart", inputs)
    return ("alike", len(lists)) if cut is None else ("open", cut)


def outcome(program, inputs, most):
    """What a walk comes to, a tuple (stand, fault's word or None, said), or None where the steps cut it."""
    state, steps = walk(program, list(inputs), most=most)
    if is_going(state):
        return None
    fault = part_of(state, "fault")
    return (part_of(state, "stand"), None if fault is None else fault[0], part_of(state, "said"))


def lets_held(one, other, thing, *, worths=(0, 1), most_inputs=2, most=200):
    """Whether it is what comes of holding them together; told of anything."""
    return is_just(thing, held(one, other, worths=worths, most_inputs=most_inputs, most=most))
