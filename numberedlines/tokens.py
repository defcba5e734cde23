"""Written lines cut into tokens, and put together again."""

from numberedlines.errors import NoText

LETTERS = "abcdefghijklmnopqrstuvwxyz"
FIGURES = "0123456789"
SIGNS = "()[],;=+-*/<>"

# Behind these words a bracket has a blank ahead; behind others it has none.
WORDS_BETWEEN = ("and", "or", "rest", "to", "by")


def tokens(text):
    """The tokens of a line, tuples (kind, text)."""
    if not isinstance(text, str):
        raise NoText(None)
    at = note_at(text)
    if at is None:
        return cut(text)
    if not may_stand_in_text(text[at:]):
        raise NoText(0)
    return [*cut(text[:at]), ("note", text[at:])]


def note_at(text):
    """Where the rest of a note begins in the line, or None where it is no note's."""
    numbered = text.lstrip(" ")
    unnumbered = numbered.lstrip(FIGURES)
    statement = unnumbered.lstrip(" ")
    if unnumbered == numbered or not statement.startswith("note "):
        return None
    return len(text) - len(statement) + len("note ")


def may_stand_in_text(text):
    return all([" " <= sign <= "~" and sign != '"' for sign in text])


def cut(text):
    """The tokens of what is no rest of a note."""
    found = []
    at = 0
    while at < len(text):
        if text[at] == " ":
            at += 1
        else:
            kind = kind_of(text[at])
            end = token_end(text, at, kind)
            found.append((kind, text[at:end]))
            at = end
    return found


def kind_of(sign):
    """The kind of the token that begins with the sign."""
    if sign in LETTERS:
        return "word"
    if sign in FIGURES:
        return "figures"
    if sign in SIGNS:
        return "sign"
    if sign == '"':
        return "text"
    raise NoText(0)


def token_end(text, at, kind):
    """Where the token of that kind ends that begins there."""
    if kind == "word":
        return run_end(text, at, LETTERS)
    if kind == "figures":
        return run_end(text, at, FIGURES)
    return at + 1 if kind == "sign" else text_end(text, at)


def run_end(text, at, signs):
    """Where the signs of one kind end that begin there."""
    while at < len(text) and text[at] in signs:
        at += 1
    return at


def text_end(text, at):
    """Where the text ends whose first double quote stands there."""
    last = text.find('"', at + 1)
    if last == -1 or not may_stand_in_text(text[at + 1:last]):
        raise NoText(0)
    return last + 1


def put_together(tokens):
    """The line that the tokens were cut from, blanks and all."""
    pieces = [
        " " + token[1] if at > 0 and has_blank_ahead(tokens, at) else token[1] for at, token in enumerate(tokens)
    ]
    return "".join(pieces)


def has_blank_ahead(found, at):
    """Whether a blank stands between the token at that place and the one ahead of it."""
    ahead = found[at - 1]
    if ahead in (("sign", "("), ("sign", "[")):
        return False
    if found[at] in (("sign", ")"), ("sign", "]"), ("sign", ","), ("sign", ";"), ("sign", "[")):
        return False
    if found[at] == ("sign", "("):
        return not is_called(found, at - 1)
    # In data a number beneath 0 has its sign right ahead; elsewhere this one stands between two.
    return ahead != ("sign", "-") or not is_of_statement(found, "data")


def is_called(found, at):
    """Whether it is a word that has its bracket right behind it."""
    kind, text = found[at]
    # The statement's own word is none, though a fit may have the same name.
    return kind == "word" and text not in WORDS_BETWEEN and not (at == 1 and is_of_statement(found, text))


def is_of_statement(found, word):
    """Whether they, two or more, are of a line whose statement begins with the word."""
    return found[0][0] == "figures" and found[1] == ("word", word)


def number_of(figures):
    """The number that figures write, also of more of them than Python reads at once."""
    number = 0
    for figure in figures:
        number = number * 10 + int(figure)
    return number
