"""What an expression comes to: a tuple ("worth", worth) or ("fault", word)."""

from numberedlines.words import GREATEST_WORTH, LONGEST_TEXT, inner_expressions

MOST_FITS = 20


def reckon(expression, *, boxes=None, rows=None, fits=None, fault=None):
    """What it comes to by boxes, rows and fits (dicts by names) and the last fault."""
    known = (
        {} if boxes is None else boxes,
        {} if rows is None else rows,
        {} if fits is None else fits,
        fault,
    )
    return come_to(expression, known, 0)


def come_to(expression, known, deep):
    """What it comes to by known, a tuple (boxes, rows, fits, fault).

    deep is how many fits' expressions are being reckoned around it.
    """
    # A fit that isn't there is the fault ahead of what is handed to it.
    if expression[0] == "fit" and expression[1] not in known[2]:
        return ("fault", "nofit")
    told = come_all(inner_expressions(expression), known, deep)
    return told if told[0] == "fault" else come_of(expression, told[1], known, deep)


def come_all(expressions, known, deep):
    """What all come to, from the left to the right: ("worths", list), or the first fault met."""
    worths = []
    for expression in expressions:
        told = come_to(expression, known, deep)
        if told[0] == "fault":
            return told
        worths.append(told[1])
    return ("worths", worths)


def come_of(expression, worths, known, deep):
    """What comes of an expression when all that is within has come to these worths."""
    boxes, rows, fits, fault = known
    word = expression[0]
    if word in ("number", "text"):
        return ("worth", expression[1])
    if word == "box":
        return of_box(boxes, expression[1])
    if word == "cell":
        return of_cell(rows, expression[1], worths[0])
    if word == "fit":
        return of_fit(expression[1], worths[0], known, deep)
    if word in ("why", "where"):
        return of_fault(fault, word)
    if word in ("not", "size"):
        return of_one(word, worths[0])
    if word == "part":
        return of_part(worths[0], worths[1], worths[2])
    return of_two(word, worths[0], worths[1])


def of_box(boxes, name):
    if name not in boxes:
        return ("fault", "empty")
    return ("worth", boxes[name])


def cell_fault(rows, name, place):
    """The fault of asking a row for the cell at a place, None where there is none."""
    if name not in rows:
        return "norow"
    if isinstance(place, str):
        return "kind"
    if not 0 <= place < len(rows[name]):
        return "range"
    return None


def of_cell(rows, name, place):
    word = cell_fault(rows, name, place)
    if word is not None:
        return ("fault", word)
    return ("worth", rows[name][place])


def of_fit(name, worth, known, deep):
    """What a fit that is there comes to, handed a worth."""
    if deep >= MOST_FITS:
        return ("fault", "deep")
    boxes, rows, fits, fault = known
    box, expression = fits[name]
    return come_to(expression, ({**boxes, box: worth}, rows, fits, fault), deep + 1)


def of_fault(fault, word):
    if fault is None:
        return ("fault", "empty")
    return ("worth", fault[0] if word == "why" else fault[1])


def of_one(word, worth):
    """What not or size comes to."""
    is_text = isinstance(worth, str)
    if is_text != (word == "size"):
        return ("fault", "kind")
    return ("worth", len(worth) if is_text else int(worth == 0))


def of_part(text, first, many):
    if not isinstance(text, str) or isinstance(first, str) or isinstance(many, str):
        return ("fault", "kind")
    if first < 1 or many < 0:
        return ("fault", "range")
    return ("worth", text[first - 1:first - 1 + many])


def of_two(sign, left, right):
    if isinstance(left, str) != isinstance(right, str):
        return ("fault", "kind")
    if isinstance(left, str) and sign not in ("+", "<", "=", ">"):
        return ("fault", "kind")
    if sign in ("/", "rest") and right == 0:
        return ("fault", "nought")
    return within_bounds(joined(sign, left, right))


def joined(sign, left, right):
    """What comes out of a sign and two worths that it can be put between."""
    if sign == "+":
        return left + right
    if sign == "-":
        return left - right
    if sign == "*":
        return left * right
    if sign == "/":
        return left // right
    if sign == "rest":
        return left % right
    if sign == "<":
        return int(left < right)
    if sign == "=":
        return int(left == right)
    if sign == ">":
        return int(left > right)
    if sign == "and":
        return int(left != 0 and right != 0)
    return int(left != 0 or right != 0)


def within_bounds(outcome):
    if isinstance(outcome, str):
        return ("fault", "long") if len(outcome) > LONGEST_TEXT else ("worth", outcome)
    return ("fault", "great") if abs(outcome) > GREATEST_WORTH else ("worth", outcome)
