"""Whether things are names, worths, expressions, statements, lines or programs."""

GREATEST_WORTH = 10 ** 12
LONGEST_TEXT = 100
LONGEST_NAME = 8
GREATEST_LINE = 9999
MOST_LINES = 100
DEEPEST_EXPRESSION = 8
MOST_EXPRESSIONS = 40
MOST_SAID = 5
MOST_PICKED = 6
MOST_DATA = 6

BARRED_NAMES = ("and", "or", "not", "rest", "size", "part", "why", "where", "to", "by", "go", "call")

# Behind each word of an expression, the kinds of the parts that it has.
EXPRESSIONS = {
    "number": ("number from 0",),
    "text": ("text",),
    "box": ("name",),
    "cell": ("name", "expression"),
    "fit": ("name", "expression"),
    "+": ("expression", "expression"),
    "-": ("expression", "expression"),
    "*": ("expression", "expression"),
    "/": ("expression", "expression"),
    "rest": ("expression", "expression"),
    "<": ("expression", "expression"),
    "=": ("expression", "expression"),
    ">": ("expression", "expression"),
    "and": ("expression", "expression"),
    "or": ("expression", "expression"),
    "not": ("expression",),
    "size": ("expression",),
    "part": ("expression", "expression", "expression"),
    "why": (),
    "where": (),
}

# Behind each word of a statement, the kinds of the parts that it has.
STATEMENTS = {
    "set": ("name", "expression"),
    "setcell": ("name", "expression", "expression"),
    "say": ("expressions",),
    "ask": ("name",),
    "go": ("line",),
    "goby": ("expression",),
    "call": ("line",),
    "back": (),
    "when": ("expression", "line"),
    "pick": ("expression", "way", "lines"),
    "loop": ("name", "expression", "expression", "expression"),
    "again": ("name",),
    "data": ("worths",),
    "read": ("name",),
    "anew": ("line or None",),
    "row": ("name", "expression"),
    "fit": ("name", "name", "expression"),
    "trap": ("line or 0",),
    "retry": (),
    "pass": (),
    "stop": (),
    "end": (),
    "note": ("text",),
}


def is_whole(thing):
    """Whether it is a whole number: a truth is none, though Python counts it as an int."""
    return isinstance(thing, int) and not isinstance(thing, bool)


def is_tuple_of(thing, test):
    """Whether it is a tuple, and the test holds for each of its parts."""
    return isinstance(thing, tuple) and all([test(part) for part in thing])


def is_just(thing, told):
    """Whether it is the told thing throughout: a truth is no number, though Python calls them equal."""
    if isinstance(told, tuple):
        if not isinstance(thing, tuple) or len(thing) != len(told):
            return False
        return all([is_just(part, told_part) for part, told_part in zip(thing, told)])
    return isinstance(thing, bool) == isinstance(told, bool) and thing == told


def rises(things):
    """Whether each one is greater than the one ahead of it."""
    return all([one < other for one, other in zip(things, things[1:])])


def is_name(thing):
    if not isinstance(thing, str) or not 1 <= len(thing) <= LONGEST_NAME:
        return False
    return all(["a" <= sign <= "z" for sign in thing]) and thing not in BARRED_NAMES


def is_number_worth(thing):
    return is_whole(thing) and abs(thing) <= GREATEST_WORTH


def is_text_worth(thing):
    if not isinstance(thing, str) or len(thing) > LONGEST_TEXT:
        return False
    return all([" " <= sign <= "~" and sign != '"' for sign in thing])


def is_worth(thing):
    return is_number_worth(thing) or is_text_worth(thing)


def is_line_number(thing):
    return is_whole(thing) and 1 <= thing <= GREATEST_LINE


def is_line_number_or_nought(thing):
    return is_whole(thing) and 0 <= thing <= GREATEST_LINE


def is_line_number_or_none(thing):
    return thing is None or is_line_number(thing)


def word_of(thing):
    """The text that a tuple begins with, None of anything else."""
    if isinstance(thing, tuple) and len(thing) > 0 and isinstance(thing[0], str):
        return thing[0]
    return None


def inner_expressions(expression):
    """The expressions directly within an expression, from the left to the right."""
    kinds = EXPRESSIONS[expression[0]]
    return [part for kind, part in zip(kinds, expression[1:]) if kind == "expression"]


def all_within(expression):
    """The expression and all expressions within it, at any depth."""
    found = [expression]
    for inner in inner_expressions(expression):
        found.extend(all_within(inner))
    return found


def expressions_of(statement):
    """The expressions directly within a statement, from the left to the right."""
    found = []
    for kind, part in zip(STATEMENTS[statement[0]], statement[1:]):
        if kind == "expression":
            found.append(part)
        if kind == "expressions":
            found.extend(part)
    return found


def targets_of(statement):
    """The numbers of lines that a statement names, from the left to the right."""
    found = []
    for kind, part in zip(STATEMENTS[statement[0]], statement[1:]):
        if kind == "lines":
            found.extend(part)
        # None and 0 stand there where no line is named.
        elif kind in ("line", "line or 0", "line or None") and part not in (None, 0):
            found.append(part)
    return found


def is_leaf(kind, thing):
    """Whether it is such a part of an expression as has no expression within."""
    if kind == "name":
        return is_name(thing)
    if kind == "text":
        return is_text_worth(thing)
    return is_number_worth(thing) and thing >= 0


def expressions_in(thing, depth):
    """How many expressions it is, itself counted: 0 where it is none, or deeper than told."""
    kinds = EXPRESSIONS.get(word_of(thing))
    if depth == 0 or kinds is None or len(thing) != len(kinds) + 1:
        return 0
    leaves = [is_leaf(kind, part) for kind, part in zip(kinds, thing[1:]) if kind != "expression"]
    if not all(leaves):
        return 0
    counts = [expressions_in(part, depth - 1) for part in inner_expressions(thing)]
    if 0 in counts:
        return 0
    return 1 + sum(counts)


def is_expression(thing):
    return 1 <= expressions_in(thing, DEEPEST_EXPRESSION) <= MOST_EXPRESSIONS


def is_said(thing):
    return is_tuple_of(thing, is_expression) and len(thing) <= MOST_SAID


def is_way(thing):
    return thing in ("go", "call")


def is_picked(thing):
    return is_tuple_of(thing, is_line_number) and 1 <= len(thing) <= MOST_PICKED


def is_data(thing):
    return is_tuple_of(thing, is_worth) and 1 <= len(thing) <= MOST_DATA


def is_how_many_said(thing):
    return is_whole(thing) and 0 <= thing <= MOST_SAID


def is_word_of_one(thing):
    """Whether it is the word of an expression that has one within, and nothing else."""
    return isinstance(thing, str) and EXPRESSIONS.get(thing) == ("expression",)


def is_sign(thing):
    """Whether it is the sign of an expression that has two within, and nothing else."""
    return isinstance(thing, str) and EXPRESSIONS.get(thing) == ("expression", "expression")


PART_TESTS = {
    "name": is_name,
    "worth": is_worth,
    "text": is_text_worth,
    "expression": is_expression,
    "expressions": is_said,
    "line": is_line_number,
    "line or 0": is_line_number_or_nought,
    "line or None": is_line_number_or_none,
    "way": is_way,
    "lines": is_picked,
    "worths": is_data,
    "how many said": is_how_many_said,
    "word of one": is_word_of_one,
    "sign": is_sign,
}


def is_part(kind, thing):
    """Whether it is such a part of a statement, or of a row made of one."""
    test = PART_TESTS[kind]
    return test(thing)


def are_parts(kinds, things):
    """Whether they are just one such part of each kind, in their order."""
    return len(kinds) == len(things) and all([is_part(kind, part) for kind, part in zip(kinds, things)])


def is_statement(thing):
    kinds = STATEMENTS.get(word_of(thing))
    return kinds is not None and are_parts(kinds, thing[1:])


def is_line(thing):
    if not isinstance(thing, tuple) or len(thing) != 2:
        return False
    return is_line_number(thing[0]) and is_statement(thing[1])


def is_program(thing):
    if not is_tuple_of(thing, is_line) or len(thing) > MOST_LINES:
        return False
    return rises([line[0] for line in thing])
