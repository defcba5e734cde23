"""Whether a line is never come to, or by which inputs it is."""

from numberedlines.flow import may_be_next, never
from numberedlines.lines import has_line
from numberedlines.states import part_of
from numberedlines.steps import is_going
from numberedlines.tries import lists_to_try
from numberedlines.walk import states_on
from numberedlines.words import is_just, rises


def is_paper(program, number, thing):
    """Whether it shows that the line is never come to; told of anything."""
    if not isinstance(thing, tuple) or not all([has_line(program, at) for at in thing]) or not rises(thing):
        return False
    if not has_line(program, number) or number in thing or program[0][0] not in thing:
        return False
    return all([way == 0 or way in thing for at in thing for way in may_be_next(program, at)])


def told_of(program, number, *, worths=(0, 1), most_inputs=2, most=200):
    """What is told of a line: ("never", paper), ("reached", inputs, steps) or ("open",)."""
    return told_by(program, number, lists_to_try(worths, most_inputs), most)


def told_by(program, number, lists, most):
    """What is told of a line by these lists of inputs, the first ones first."""
    barred = never(program)
    if number in barred:
        return ("never", tuple([line[0] for line in program if line[0] not in barred]))
    for inputs in lists:
        steps = steps_to(program, number, inputs, most)
        if steps is not None:
            return ("reached", inputs, steps)
    return ("open",)


def steps_to(program, number, inputs, most):
    """The fewest steps in which a walk is going at the line, None where it isn't in so many."""
    for steps, state in enumerate(states_on(program, list(inputs), most=most)):
        if is_going(state) and part_of(state, "at") == number:
            return steps
    return None


def lets_told(program, number, thing, *, worths=(0, 1), most_inputs=2, most=200):
    """Whether it is what may be told of the line; told of anything."""
    lists = lists_to_try(worths, most_inputs)
    # Of papers any right one may be told, of all else just one thing.
    if isinstance(thing, tuple) and len(thing) == 2 and thing[0] == "never":
        return is_paper(program, number, thing[1])
    return is_just(thing, told_by(program, number, lists, most))
