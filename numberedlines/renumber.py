"""Programs and states under other numbers of lines, and programs merged."""

from numberedlines.errors import NoTarget, Reckoned, TooGreat, TooMany
from numberedlines.lines import has_line
from numberedlines.states import frame_number, part_of, state_with
from numberedlines.words import GREATEST_LINE, MOST_LINES, STATEMENTS, all_within, expressions_of, targets_of


def renumbered(program, *, first=10, step=10):
    """The program with its lines numbered anew, and a list of tuples (old, new)."""
    pairs = [(line[0], first + place * step) for place, line in enumerate(program)]
    if any([new > GREATEST_LINE for old, new in pairs]):
        raise TooGreat()
    refuse_reckoned(program)
    refuse_targets(program)
    leads = leads_of(pairs)
    return (tuple([(leads[number], led_statement(statement, leads)) for number, statement in program]), pairs)


def asks_where(expression):
    return ("where",) in all_within(expression)


def refuse_reckoned(program):
    """Raises Reckoned where a line's number is reckoned, so that it can't be led."""
    for number, statement in program:
        if statement[0] == "goby" or any([asks_where(expression) for expression in expressions_of(statement)]):
            raise Reckoned(number)


def refuse_targets(program):
    """Raises NoTarget where a line is named that there isn't."""
    for number, statement in program:
        for target in targets_of(statement):
            if not has_line(program, target):
                raise NoTarget(number, target)


def leads_of(pairs):
    """The new number by each old one; None and 0, which name no line, stay."""
    return {**dict(pairs), None: None, 0: 0}


def led_statement(statement, leads):
    return (statement[0], *[
        led_part(kind, part, leads) for kind, part in zip(STATEMENTS[statement[0]], statement[1:])
    ])


def led_part(kind, part, leads):
    if kind == "lines":
        return tuple([leads[number] for number in part])
    return leads[part] if kind in ("line", "line or 0", "line or None") else part


def led_state(state, pairs):
    """The state with each number of a line led by the tuples (old, new)."""
    if any([asks_where(fit[2]) for fit in part_of(state, "fits")]):
        raise Reckoned(0)
    leads = leads_of(pairs)
    for number in numbers_in(state):
        if number not in leads:
            raise NoTarget(0, number)
    number, read = part_of(state, "place")
    fault = part_of(state, "fault")
    return state_with(
        state,
        at=leads[part_of(state, "at")],
        pile=tuple([led_frame(frame, leads) for frame in part_of(state, "pile")]),
        place=(leads[number], read),
        trap=leads[part_of(state, "trap")],
        fault=None if fault is None else (fault[0], leads[fault[1]]),
    )


def numbers_in(state):
    """The numbers of lines that a state names, in the order in which they are refused."""
    fault = part_of(state, "fault")
    frames = [frame_number(frame) for frame in part_of(state, "pile")]
    told = [part_of(state, "at"), *frames, part_of(state, "place")[0], part_of(state, "trap")]
    return told if fault is None else [*told, fault[1]]


def led_frame(frame, leads):
    if frame[0] == "call":
        return ("call", leads[frame[1]])
    word, name, number, to, by = frame
    return (word, name, leads[number], to, by)


def merged(one, other):
    """All lines of both programs, of one number the second's."""
    lines = {**dict(one), **dict(other)}
    if len(lines) > MOST_LINES:
        raise TooMany()
    return tuple([(number, lines[number]) for number in sorted(lines)])
