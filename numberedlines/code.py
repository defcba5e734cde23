"""The rows that a machine does for a line: made of programs, and whether a thing is such."""

from numberedlines.words import (
    MOST_LINES,
    STATEMENTS,
    are_parts,
    expressions_of,
    inner_expressions,
    is_line_number,
    is_tuple_of,
    rises,
    word_of,
)

MOST_ROWS = 400

# Behind each word of a row but the act, the kinds of the parts that it has.
ROWS = {
    "push": ("worth",),
    "box": ("name",),
    "why": (),
    "where": (),
    "cell": ("name",),
    "fit": ("name",),
    "one": ("word of one",),
    "two": ("sign",),
    "part": (),
    "has": ("name",),
}


def made(program):
    """The rows of each line of a program, by its number."""
    return tuple([(number, rows_of(statement)) for number, statement in program])


def rows_of(statement):
    rows = []
    for expression in reckoned_in(statement):
        rows.extend(expression_rows(expression))
    return (*rows, act_of(statement))


def reckoned_in(statement):
    """The expressions that a statement reckons when it is done, in their order."""
    # A fit's own expression is reckoned where the fit is called.
    return [] if statement[0] == "fit" else expressions_of(statement)


def expression_rows(expression):
    """The rows that lay the expression's worth on the pile."""
    inner = []
    for part in inner_expressions(expression):
        inner.extend(expression_rows(part))
    if expression[0] == "fit":
        # The fit must be there ahead of all that is handed to it.
        return [("has", expression[1]), *inner, ("fit", expression[1])]
    return [*inner, row_of(expression)]


def row_of(expression):
    """The row that takes what was within the expression and lays what comes of it."""
    word = expression[0]
    if word in ("number", "text"):
        return ("push", expression[1])
    if word in ("box", "cell"):
        return (word, expression[1])
    if word in ("why", "where", "part"):
        return (word,)
    if word in ("not", "size"):
        return ("one", word)
    return ("two", word)


def act_of(statement):
    """The row that does the statement once its expressions' worths are on the pile."""
    word = statement[0]
    if word == "fit":
        return ("do", *statement)
    parts = []
    for kind, part in zip(STATEMENTS[word], statement[1:]):
        if kind == "expressions":
            parts.append(len(part))
        elif kind != "expression":
            parts.append(part)
    return ("do", word, *parts)


def act_kinds(word):
    """The kinds of the parts that an act of this word has, or None."""
    kinds = STATEMENTS.get(word)
    if kinds is None or word == "fit":
        return kinds
    left = [kind for kind in kinds if kind != "expression"]
    return ["how many said" if kind == "expressions" else kind for kind in left]


def is_code(thing):
    """Whether it is a tuple of lines' rows, by its form; told of anything."""
    if not is_tuple_of(thing, is_line_rows) or len(thing) > MOST_LINES:
        return False
    return rises([line[0] for line in thing])


def is_line_rows(thing):
    if not isinstance(thing, tuple) or len(thing) != 2 or not is_line_number(thing[0]):
        return False
    rows = thing[1]
    if not isinstance(rows, tuple) or not 1 <= len(rows) <= MOST_ROWS:
        return False
    return is_tuple_of(rows[:-1], is_plain_row) and is_act(rows[-1])


def is_plain_row(thing):
    """Whether it is a row other than an act."""
    kinds = ROWS.get(word_of(thing))
    return kinds is not None and are_parts(kinds, thing[1:])


def is_act(thing):
    if word_of(thing) != "do":
        return False
    kinds = act_kinds(word_of(thing[1:]))
    return kinds is not None and are_parts(kinds, thing[2:])
