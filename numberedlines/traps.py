"""What a fault makes of a state."""

from numberedlines.lines import has_line
from numberedlines.states import part_of, state_with


def fault_at(program, state, word, number):
    """The state behind a fault at the line of that number, which need not be there."""
    trap = part_of(state, "trap")
    if has_line(program, trap) and not part_of(state, "trapped"):
        return state_with(state, stand="going", at=trap, trapped=True, fault=(word, number))
    return state_with(state, stand="faulted", at=number, fault=(word, number))
