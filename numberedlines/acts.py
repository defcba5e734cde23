"""What the acts of lines do.

An act is a row ("do", word, ...), as code makes it of a statement. Each function that does one is
handed the program, the state, the act's own parts and the worths that its expressions came to. Told
is ("state", state) or ("fault", word).
"""

from numberedlines.lines import has_line, line_behind, with_entry
from numberedlines.loops import again_behind, closed_by
from numberedlines.readings import next_data
from numberedlines.reckon import cell_fault, of_box, of_two
from numberedlines.states import LONGEST_ROW, MOST_FRAMES, part_of, state_with


def behind(program, state, number, stand="going"):
    """The state at the line behind a number: ended, at 0, where none is."""
    at = line_behind(program, number)
    return ("state", state_with(state, stand="ended" if at == 0 else stand, at=at))


def onward(program, state):
    """The state at the line behind the one that it is at."""
    return behind(program, state, part_of(state, "at"))


def with_box(state, name, worth):
    return state_with(state, boxes=with_entry(part_of(state, "boxes"), (name, worth)))


def do_set(program, state, name, worth):
    return onward(program, with_box(state, name, worth))


def do_setcell(program, state, name, place, worth):
    rows = dict(part_of(state, "rows"))
    word = cell_fault(rows, name, place)
    if word is not None:
        return ("fault", word)
    row = rows[name]
    new = (name, (*row[:place], worth, *row[place + 1:]))
    return onward(program, state_with(state, rows=with_entry(part_of(state, "rows"), new)))


def do_row(program, state, name, length):
    if isinstance(length, str):
        return ("fault", "kind")
    if not 1 <= length <= LONGEST_ROW:
        return ("fault", "range")
    new = (name, (0,) * length)
    return onward(program, state_with(state, rows=with_entry(part_of(state, "rows"), new)))


def do_fit(program, state, name, box, expression):
    new = (name, box, expression)
    return onward(program, state_with(state, fits=with_entry(part_of(state, "fits"), new)))


def do_say(program, state, many, *worths):
    return onward(program, state_with(state, said=(*part_of(state, "said"), worths)))


def do_ask(program, state, name, inputs):
    asked = part_of(state, "asked")
    if asked >= len(inputs):
        return ("state", state_with(state, stand="asks"))
    return onward(program, state_with(with_box(state, name, inputs[asked]), asked=asked + 1))


def do_nothing(program, state, told):
    return onward(program, state)


def do_stop(program, state):
    return behind(program, state, part_of(state, "at"), stand="stopped")


def do_end(program, state):
    return ("state", state_with(state, stand="ended", at=0))


def do_go(program, state, number):
    if not has_line(program, number):
        return ("fault", "noline")
    return ("state", state_with(state, at=number))


def do_goby(program, state, worth):
    return ("fault", "kind") if isinstance(worth, str) else do_go(program, state, worth)


def do_when(program, state, number, worth):
    if isinstance(worth, str):
        return ("fault", "kind")
    return onward(program, state) if worth == 0 else do_go(program, state, number)


def do_pick(program, state, way, numbers, worth):
    if isinstance(worth, str):
        return ("fault", "kind")
    if not 1 <= worth <= len(numbers):
        return onward(program, state)
    number = numbers[worth - 1]
    return do_call(program, state, number) if way == "call" else do_go(program, state, number)


def do_call(program, state, number):
    if not has_line(program, number):
        return ("fault", "noline")
    pile = part_of(state, "pile")
    if len(pile) >= MOST_FRAMES:
        return ("fault", "pile")
    return ("state", state_with(state, at=number, pile=(*pile, ("call", part_of(state, "at")))))


def do_back(program, state):
    pile = part_of(state, "pile")
    heights = [height for height, frame in enumerate(pile) if frame[0] == "call"]
    if len(heights) == 0:
        return ("fault", "back")
    height = heights[-1]
    return behind(program, state_with(state, pile=pile[:height]), pile[height][1])


def is_beyond(worth, to, by):
    """Whether a loop's number has gone past the loop's end."""
    return worth > to if by > 0 else worth < to


def do_loop(program, state, name, first, to, by):
    if isinstance(first, str) or isinstance(to, str) or isinstance(by, str):
        return ("fault", "kind")
    if by == 0:
        return ("fault", "range")
    at = part_of(state, "at")
    closed = closed_by(part_of(state, "pile"), name)
    left = part_of(state, "pile") if closed is None else closed
    entered = with_box(state, name, first)
    if is_beyond(first, to, by):
        end = again_behind(program, at, name)
        if end is None:
            return ("fault", "again")
        return behind(program, state_with(entered, pile=left), end)
    if len(left) >= MOST_FRAMES:
        return ("fault", "pile")
    return onward(program, state_with(entered, pile=(*left, ("loop", name, at, to, by))))


def do_again(program, state, name):
    pile = part_of(state, "pile")
    left = closed_by(pile, name)
    if left is None:
        return ("fault", "again")
    number, to, by = pile[len(left)][2:]
    held = of_box(dict(part_of(state, "boxes")), name)
    counted = held if held[0] == "fault" else of_two("+", held[1], by)
    if counted[0] == "fault":
        return counted
    turned = with_box(state, name, counted[1])
    if is_beyond(counted[1], to, by):
        return onward(program, state_with(turned, pile=left))
    return behind(program, state_with(turned, pile=pile[:len(left) + 1]), number)


def do_read(program, state, name):
    told = next_data(program, part_of(state, "place"))
    if told is None:
        return ("fault", "data")
    return onward(program, state_with(with_box(state, name, told[0]), place=told[1]))


def do_anew(program, state, number):
    return onward(program, state_with(state, place=(0 if number is None else number, 0)))


def do_trap(program, state, number):
    if number != 0 and not has_line(program, number):
        return ("fault", "noline")
    return onward(program, state_with(state, trap=number))


def is_caught(state):
    """Whether a fault led to a trap's line, and none has led out of it."""
    return part_of(state, "trapped") and part_of(state, "fault") is not None


def do_retry(program, state):
    if not is_caught(state):
        return ("fault", "trap")
    return do_go(program, state_with(state, trapped=False), part_of(state, "fault")[1])


def do_pass(program, state):
    if not is_caught(state):
        return ("fault", "trap")
    return behind(program, state_with(state, trapped=False), part_of(state, "fault")[1])


ACTS = {
    "set": do_set,
    "setcell": do_setcell,
    "say": do_say,
    "ask": do_ask,
    "go": do_go,
    "goby": do_goby,
    "call": do_call,
    "back": do_back,
    "when": do_when,
    "pick": do_pick,
    "loop": do_loop,
    "again": do_again,
    "data": do_nothing,
    "read": do_read,
    "anew": do_anew,
    "row": do_row,
    "fit": do_fit,
    "trap": do_trap,
    "retry": do_retry,
    "pass": do_pass,
    "stop": do_stop,
    "end": do_end,
    "note": do_nothing,
}


def acted(program, state, inputs, act, worths):
    """What an act tells, its expressions having come to these worths."""
    word = act[1]
    action = ACTS[word]
    given = [*act[2:], *worths]
    if word == "ask":
        given.append(inputs)
    return action(program, state, *given)
