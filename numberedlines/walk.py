"""Programs walked line by line."""

from numberedlines.acts import acted, onward
from numberedlines.code import act_of, reckoned_in
from numberedlines.lines import at_number
from numberedlines.reckon import come_all
from numberedlines.states import part_of, state_with
from numberedlines.steps import begun_at, is_going, known_of, settled, walked


def step(program, state, inputs):
    """The state behind the line at which it is; one that isn't going, as it is."""
    if not is_going(state):
        return state
    return settled(program, state, line_done(program, state, inputs))


def line_done(program, state, inputs):
    """What the line at which it is tells: ("state", state) or ("fault", word)."""
    statement = at_number(program, part_of(state, "at"))
    if statement is None:
        # So it is only where the program has no lines: what goes there ends.
        return onward(program, state)
    told = come_all(reckoned_in(statement), known_of(state), 0)
    if told[0] == "fault":
        return told
    return acted(program, state, inputs, act_of(statement), told[1])


def walk(program, inputs, *, state=None, most=1000):
    """The state that is come to from a told state, or the first one, and the steps that it took."""
    def next_state(now):
        return step(program, now, inputs)

    return walked(next_state, begun_at(program, state), most)


def states_on(program, inputs, *, state=None, most=1000):
    """All states of that walk, the one that it begins with too."""
    states = [begun_at(program, state)]
    while len(states) <= most and is_going(states[-1]):
        states.append(step(program, states[-1], inputs))
    return states


def gone_on(program, state, inputs):
    """The state, going again where it can go on."""
    return state_with(state, stand="going") if can_go_on(state, inputs) else state


def can_go_on(state, inputs):
    stand = part_of(state, "stand")
    if stand == "asks":
        return len(inputs) > part_of(state, "asked")
    return stand in ("stopped", "faulted") and part_of(state, "at") != 0
