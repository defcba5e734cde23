"""Which boxes may be asked while they are empty, and by which inputs they are."""

from numberedlines.flow import all_ways, reached_by, trap_lines
from numberedlines.states import part_of
from numberedlines.tries import lists_to_try
from numberedlines.walk import states_on
from numberedlines.words import all_within, expressions_of

SETTING = ("set", "ask", "loop", "read")


def may_be_empty(program):
    """The tuples (line, name) of boxes that may be empty when the line asks them, rising."""
    ways = all_ways(program)
    # Boxes that the same lines set may be empty at the same lines.
    unset_behind = {}
    found = []
    for number, statement in program:
        for name in boxes_asked(program, statement):
            setters = setting_lines(program, name)
            if setters not in unset_behind:
                unset_behind[setters] = reached_unset(program, ways, setters)
            if number in unset_behind[setters]:
                found.append((number, name))
    return found


def setting_lines(program, name):
    return tuple([
        number for number, statement in program if statement[0] in SETTING and statement[1] == name
    ])


def reached_unset(program, ways, setters):
    """The lines to which some way leads on which none of the setters did what it does."""
    # A setter that comes to a fault sets nothing, and is left to a trap's line.
    traps = trap_lines(program)
    return reached_by(program, {**ways, **{number: traps for number in setters}})


def boxes_asked(program, statement):
    """The names of the boxes that a line of this statement asks, rising."""
    if statement[0] == "fit":
        return []
    expressions = expressions_of(statement)
    names = [statement[1]] if statement[0] == "again" else []
    for expression in expressions:
        names.extend(boxes_in(expression))
    for box, expression in fits_behind(program, expressions):
        names.extend([name for name in boxes_in(expression) if name != box])
    return sorted(set(names))


def boxes_in(expression):
    return [inner[1] for inner in all_within(expression) if inner[0] == "box"]


def fits_behind(program, expressions):
    """The tuples (box, expression) of all fit lines that may be called by these expressions or therein."""
    called = []
    found = []
    waiting = list(expressions)
    while len(waiting) > 0:
        expression = waiting.pop()
        for name in fits_in(expression):
            if name not in called:
                called.append(name)
                fits = fit_lines(program, name)
                found.extend(fits)
                waiting.extend([fit[1] for fit in fits])
    return found


def fits_in(expression):
    return [inner[1] for inner in all_within(expression) if inner[0] == "fit"]


def fit_lines(program, name):
    """The tuples (box, expression) of the lines that lay down a fit of this name."""
    return [statement[2:] for number, statement in program if statement[:2] == ("fit", name)]


def found_empty(program, number, name, *, worths=(0, 1), most_inputs=2, most=200):
    """The first inputs by which the line asks the box while it is empty, or None."""
    for inputs in lists_to_try(worths, most_inputs):
        if asks_empty(number, name, states_on(program, list(inputs), most=most)):
            return inputs
    return None


def asks_empty(number, name, states):
    """Whether a step of this walk from the line comes to the fault while the box isn't there."""
    # A box that is there stays, so an elder such fault of the line was without the box as well.
    return any([
        part_of(ahead, "at") == number
        and name not in dict(part_of(ahead, "boxes"))
        and part_of(behind, "fault") == ("empty", number)
        for ahead, behind in zip(states, states[1:])
    ])
