"""How expressions, lines and programs are written."""

from numberedlines.words import EXPRESSIONS, STATEMENTS

# By each word, what is written, with _ in the place of each part.
EXPRESSION_FORMS = {
    "number": "_",
    "text": '"_"',
    "box": "_",
    "cell": "_[_]",
    "fit": "_(_)",
    "+": "(_ + _)",
    "-": "(_ - _)",
    "*": "(_ * _)",
    "/": "(_ / _)",
    "rest": "(_ rest _)",
    "<": "(_ < _)",
    "=": "(_ = _)",
    ">": "(_ > _)",
    "and": "(_ and _)",
    "or": "(_ or _)",
    "not": "not(_)",
    "size": "size(_)",
    "part": "part(_, _, _)",
    "why": "why",
    "where": "where",
}
# Of say and anew, the part has its own blank ahead, where it is there at all.
STATEMENT_FORMS = {
    "set": "set _ = _",
    "setcell": "set _[_] = _",
    "say": "say_",
    "ask": "ask _",
    "go": "go _",
    "goby": "go by _",
    "call": "call _",
    "back": "back",
    "when": "when _ go _",
    "pick": "pick _ _ _",
    "loop": "loop _ = _ to _ by _",
    "again": "again _",
    "data": "data _",
    "read": "read _",
    "anew": "anew_",
    "row": "row _[_]",
    "fit": "fit _(_) = _",
    "trap": "trap _",
    "retry": "retry",
    "pass": "pass",
    "stop": "stop",
    "end": "end",
    "note": "note _",
}


def show_expression(e):
    return filled(EXPRESSION_FORMS[e[0]], EXPRESSIONS[e[0]], e[1:])


def show_statement(statement):
    word = statement[0]
    return filled(STATEMENT_FORMS[word], STATEMENTS[word], statement[1:])


def show_line(line):
    return f"{line[0]} {show_statement(line[1])}"


def show_program(program):
    return "".join([show_line(line) + "\n" for line in program])


def filled(form, kinds, parts):
    """The form with the parts, of these kinds, in their places."""
    shown = [show_part(kind, part) for kind, part in zip(kinds, parts)]
    pieces = form.split("_")
    return pieces[0] + "".join([part + piece for part, piece in zip(shown, pieces[1:])])


def show_part(kind, part):
    if kind == "expression":
        return show_expression(part)
    if kind == "expressions":
        return "" if len(part) == 0 else " " + "; ".join([show_expression(e) for e in part])
    if kind == "lines":
        return ", ".join([str(number) for number in part])
    if kind == "worths":
        return show_worths(part)
    if kind == "line or None":
        return "" if part is None else f" {part}"
    return str(part)


def show_worth(worth):
    return f'"{worth}"' if isinstance(worth, str) else str(worth)


def show_worths(worths):
    return ", ".join([show_worth(worth) for worth in worths])
