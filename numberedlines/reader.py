"""Expressions, lines and programs read back from what is written.

Read is what the tokens at the beginning of the text tell by their forms. What comes of it is told only where
it is such a thing, and where it is written just as the whole text is, blanks and all.
"""

from numberedlines.errors import NoText
from numberedlines.texts import EXPRESSION_FORMS, STATEMENT_FORMS, show_expression, show_line, show_worth
from numberedlines.tokens import number_of, tokens
from numberedlines.words import (
    DEEPEST_EXPRESSION,
    EXPRESSIONS,
    MOST_LINES,
    STATEMENTS,
    is_expression,
    is_line,
    is_sign,
    is_worth,
)


def read_expression(text):
    expression = expression_at(tokens(text), 0, 1)[0]
    if not is_expression(expression) or show_expression(expression) != text:
        raise NoText(0)
    return expression


def read_line(text):
    line = line_at(tokens(text), 0)[0]
    if not is_line(line) or show_line(line) != text:
        raise NoText(0)
    return line


def read_worth(text):
    """The worth that is so written in a data line."""
    worth = worth_at(tokens(text), 0)[0]
    if not is_worth(worth) or show_worth(worth) != text:
        raise NoText(0)
    return worth


def read_program(text):
    if not isinstance(text, str):
        raise NoText(None)
    pieces = text.split("\n")
    last = len(pieces) - 1
    program = []
    for at, piece in enumerate(pieces[:last]):
        line = line_or_none(piece)
        if line is None or at >= MOST_LINES or (at > 0 and line[0] <= program[-1][0]):
            raise NoText(at)
        program.append(line)
    # Behind the last line's end nothing stands.
    if pieces[last] != "":
        raise NoText(last)
    return tuple(program)


def line_or_none(text):
    try:
        return read_line(text)
    except NoText:
        return None


# Each of the following tells a tuple of what begins at that place among the tokens and the place behind it.


def line_at(found, at):
    number, begun = number_at(found, at)
    word = statement_word(found, begun)
    if word not in STATEMENT_FORMS:
        raise NoText(0)
    parts, end = parts_at(found, begun, STATEMENT_FORMS[word], STATEMENTS[word], 0)
    return ((number, (word, *parts)), end)


def expression_at(found, at, deep):
    """An expression that is so deep, the outermost being 1."""
    # What is deeper is none, and may be deeper than calls can be within one another.
    if deep > DEEPEST_EXPRESSION:
        raise NoText(0)
    kind, text = token_at(found, at)
    if kind == "figures":
        return (("number", number_of(text)), at + 1)
    if kind == "text":
        return (("text", text[1:-1]), at + 1)
    if kind == "word":
        word = expression_word(found, at)
        parts, end = parts_at(found, at, EXPRESSION_FORMS[word], EXPRESSIONS[word], deep)
        return ((word, *parts), end)
    return pair_at(found, at, deep)


def pair_at(found, at, deep):
    """Two expressions in brackets, with a sign between them."""
    left, between = expression_at(found, behind(found, at, "("), deep + 1)
    sign = token_at(found, between)[1]
    if not is_sign(sign):
        raise NoText(0)
    right, end = expression_at(found, between + 1, deep + 1)
    return ((sign, left, right), behind(found, end, ")"))


def parts_at(found, at, form, kinds, deep):
    """The parts, of these kinds, of what is written in that form."""
    pieces = form.split("_")
    end = behind(found, at, pieces[0])
    parts = []
    for kind, piece in zip(kinds, pieces[1:]):
        part, end = part_at(found, end, kind, deep)
        parts.append(part)
        end = behind(found, end, piece)
    return (parts, end)


def part_at(found, at, kind, deep):
    if kind == "expression":
        return expression_at(found, at, deep + 1)
    if kind == "expressions":
        return ((), at) if at == len(found) else several_at(found, at, "expression", ";")
    if kind == "lines":
        return several_at(found, at, "line", ",")
    if kind == "worths":
        return several_at(found, at, "worth", ",")
    if kind == "worth":
        return worth_at(found, at)
    if kind in ("name", "way"):
        return (text_of_kind(found, at, "word"), at + 1)
    if kind == "text":
        return (text_of_kind(found, at, "note"), at + 1)
    if kind == "line or None" and at == len(found):
        return (None, at)
    return number_at(found, at)


def several_at(found, at, kind, between):
    """A tuple of one part of the kind, or of several with that sign between them."""
    part, end = part_at(found, at, kind, 0)
    parts = [part]
    while found[end:end + 1] == [("sign", between)]:
        part, end = part_at(found, end + 1, kind, 0)
        parts.append(part)
    return (tuple(parts), end)


def worth_at(found, at):
    if token_at(found, at)[0] == "text":
        return (found[at][1][1:-1], at + 1)
    if found[at] == ("sign", "-"):
        number, end = number_at(found, at + 1)
        return (-number, end)
    return number_at(found, at)


def number_at(found, at):
    return (number_of(text_of_kind(found, at, "figures")), at + 1)


def statement_word(found, at):
    """The word of the statement that begins there, as it stands in the statement itself."""
    if found[at:at + 2] == [("word", "go"), ("word", "by")]:
        return "goby"
    if found[at:at + 1] == [("word", "set")] and found[at + 2:at + 3] == [("sign", "[")]:
        return "setcell"
    return text_of_kind(found, at, "word")


def expression_word(found, at):
    """The word of the expression that begins there with a word, as it stands in the expression itself."""
    text = found[at][1]
    if text in ("not", "size", "part", "why", "where"):
        return text
    if found[at + 1:at + 2] == [("sign", "[")]:
        return "cell"
    return "fit" if found[at + 1:at + 2] == [("sign", "(")] else "box"


def token_at(found, at):
    if at >= len(found):
        raise NoText(0)
    return found[at]


def text_of_kind(found, at, kind):
    """The text of the token there, which must be of that kind."""
    if token_at(found, at)[0] != kind:
        raise NoText(0)
    return found[at][1]


def behind(found, at, piece):
    """The place behind the tokens of a piece, which must stand there."""
    expected = tokens(piece)
    if found[at:at + len(expected)] != expected:
        raise NoText(0)
    return at + len(expected)
