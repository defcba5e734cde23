"""Which lines may be next behind one, by a program's lines alone, and which are never come to."""

from numberedlines.lines import at_number, has_line, line_behind
from numberedlines.loops import again_behind
from numberedlines.words import targets_of

# Of these, the line behind isn't meant.
LEAVING = ("go", "goby", "back", "end", "retry", "pass")
# From these, no fault leads to a trap's line.
FAULTLESS = ("note", "data", "end", "stop")


def may_be_next(program, number):
    """The numbers of the lines that may be next behind a line, 0 for none, rising."""
    statement = at_number(program, number)
    found = ways_by_itself(program, number, statement)
    if statement[0] not in LEAVING:
        found.append(line_behind(program, number))
    if statement[0] not in FAULTLESS:
        found.extend(trap_lines(program))
    return sorted(set(found))


def ways_by_itself(program, number, statement):
    """The lines to which the statement's own words and numbers lead."""
    word = statement[0]
    if word in ("go", "call", "when", "pick"):
        return [target for target in targets_of(statement) if has_line(program, target)]
    if word == "goby":
        return [line[0] for line in program]
    if word == "back":
        return behind_all(program, calling_lines(program))
    if word == "loop":
        end = again_behind(program, number, statement[1])
        return [] if end is None else [line_behind(program, end)]
    if word == "again":
        return behind_all(program, loop_lines(program, statement[1]))
    if word == "retry":
        return lines_with_deeds(program)
    if word == "pass":
        return behind_all(program, lines_with_deeds(program))
    return [0] if word == "end" else []


def behind_all(program, numbers):
    return [line_behind(program, number) for number in numbers]


def calling_lines(program):
    return [
        number for number, statement in program
        if statement[0] == "call" or (statement[0] == "pick" and statement[2] == "call")
    ]


def loop_lines(program, name):
    return [number for number, statement in program if statement[:2] == ("loop", name)]


def lines_with_deeds(program):
    """The lines that retry and pass are held to come back to: all but notes and data."""
    return [number for number, statement in program if statement[0] not in ("note", "data")]


def trap_lines(program):
    """The lines that are there and that a trap names."""
    return [
        statement[1] for number, statement in program
        if statement[0] == "trap" and has_line(program, statement[1])
    ]


def all_ways(program):
    """The lines that may be next behind each line, by its number."""
    return {number: may_be_next(program, number) for number, statement in program}


def reached_by(program, ways):
    """The lines to which such ways lead from the first line on, that line too."""
    reached = []
    waiting = [line[0] for line in program[:1]]
    while len(waiting) > 0:
        number = waiting.pop()
        if number != 0 and number not in reached:
            reached.append(number)
            waiting.extend(ways[number])
    return reached


def never(program):
    """The lines to which no ways lead from the first line on, rising."""
    reached = reached_by(program, all_ways(program))
    return [line[0] for line in program if line[0] not in reached]
