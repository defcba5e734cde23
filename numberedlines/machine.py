"""Programs walked by a machine that does rows, with a pile of worths."""

from numberedlines.acts import acted, onward
from numberedlines.lines import at_number
from numberedlines.reckon import come_of
from numberedlines.states import part_of
from numberedlines.steps import begun_at, is_going, known_of, settled, walked
from numberedlines.words import STATEMENTS

# How many worths each row but the act takes from the pile.
TAKES = {
    "push": 0,
    "box": 0,
    "why": 0,
    "where": 0,
    "has": 0,
    "cell": 1,
    "fit": 1,
    "one": 1,
    "two": 2,
    "part": 3,
}


def machine_step(code, program, state, inputs):
    """The state behind the rows of the line at which it is; one that isn't going, as it is."""
    if not is_going(state):
        return state
    return settled(program, state, rows_done(code, program, state, inputs))


def machine_walk(code, program, inputs, *, state=None, most=1000):
    """The state that is come to from a told state, or the first one, and the steps that it took."""
    def next_state(now):
        return machine_step(code, program, now, inputs)

    return walked(next_state, begun_at(program, state), most)


def rows_done(code, program, state, inputs):
    """What the rows of the line at which it is tell: ("state", state) or ("fault", word)."""
    rows = at_number(code, part_of(state, "at"))
    if rows is None:
        # So it is only where the program has no lines: what goes there ends.
        return onward(program, state)
    told = pile_of(rows[:-1], known_of(state))
    if told[0] == "fault":
        return told
    act = rows[-1]
    if len(told[1]) != act_takes(act):
        return ("fault", "pile")
    return acted(program, state, inputs, act, told[1])


def pile_of(rows, known):
    """The pile that the rows leave, ("worths", list), or the first fault met."""
    pile = []
    for row in rows:
        left = len(pile) - TAKES[row[0]]
        if left < 0:
            return ("fault", "pile")
        told = of_row(row, pile[left:], known)
        if told[0] == "fault":
            return told
        pile = pile[:left] + told[1]
    return ("worths", pile)


def of_row(row, worths, known):
    """What a row lays on the pile for the worths that it took: ("worths", list) or ("fault", word)."""
    word = row[0]
    if word == "push":
        return ("worths", [row[1]])
    if word in ("has", "fit") and row[1] not in known[2]:
        return ("fault", "nofit")
    if word == "has":
        return ("worths", [])
    told = come_of((row[1],) if word in ("one", "two") else row, worths, known, 0)
    return told if told[0] == "fault" else ("worths", [told[1]])


def act_takes(act):
    """How many worths an act takes: one for each expression that its statement reckons."""
    word = act[1]
    if word == "say":
        return act[2]
    return 0 if word == "fit" else STATEMENTS[word].count("expression")
