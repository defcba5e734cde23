"""Programs put together by chance from a told seed, so that each time the same are told."""

import random

NAMES = ("a", "b", "i", "k")
SIGNS = ("+", "-", "*", "/", "rest", "<", "=", ">", "and", "or")
WORTHS = (0, 1, 2, -1, 5, "", "x", 10 ** 12)


class Chance:
    def __init__(self, seed, *, led=False):
        """led: without what can't be led, goby and where, and without lines that there aren't."""
        self.random = random.Random(seed)
        self.led = led
        self.numbers = ()

    def one_of(self, things):
        return self.random.choice(things)

    def expression(self, deep=3):
        leaves = [("number", self.one_of((0, 1, 2, 3, 7))), ("text", self.one_of(("", "x", "yz"))),
                  ("box", self.one_of(NAMES)), ("box", self.one_of(NAMES)), ("why",)]
        if not self.led:
            leaves.append(("where",))
        if deep == 1 or self.random.random() < 0.5:
            return self.one_of(leaves)
        inner = [self.expression(deep - 1) for _ in range(3)]
        return self.one_of((
            (self.one_of(SIGNS), inner[0], inner[1]),
            (self.one_of(SIGNS), inner[0], ("number", 2)),
            (self.one_of(("not", "size")), inner[0]),
            ("cell", self.one_of(NAMES), inner[0]),
            ("fit", self.one_of(NAMES), inner[0]),
            ("part", *inner),
        ))

    def number(self):
        """A number of a line, now and then of one that there isn't."""
        if not self.led and self.random.random() < 0.1:
            return self.one_of((1, 9999))
        return self.one_of(self.numbers)

    def statement(self):
        name, e, f, n = self.one_of(NAMES), self.expression(), self.expression(), self.number()
        told = [
            ("set", name, e), ("set", name, ("number", 1)), ("setcell", name, e, f), ("say", (e, f)), ("say", ()),
            ("ask", name), ("go", n), ("call", n), ("call", n), ("back",), ("when", e, n),
            ("pick", e, self.one_of(("go", "call")), (n, self.number())),
            ("loop", name, ("number", 1), ("number", 3), ("number", 1)), ("loop", name, e, f, ("number", 1)),
            ("again", name), ("again", name), ("data", (self.one_of(WORTHS), 4)), ("read", name),
            ("anew", self.one_of((None, n))), ("row", name, ("number", 3)), ("fit", name, self.one_of(NAMES), e),
            ("trap", self.one_of((0, n, n))), ("retry",), ("pass",), ("stop",), ("end",), ("note", "x"),
        ]
        if not self.led:
            told.append(("goby", e))
        return self.one_of(told)

    def beginning(self):
        """Lines that set boxes, a row, a fit and a trap, so that what comes behind gets further."""
        told = [("set", "a", ("number", 1)), ("set", "i", ("number", 3)), ("set", "k", ("text", "xyz")),
                ("row", "a", ("number", 4)), ("fit", "b", "k", ("+", ("box", "a"), ("box", "k"))),
                ("trap", self.number()), ("data", (1, "x", 3))]
        return self.random.sample(told, self.random.randint(0, len(told)))

    def program(self, most=20):
        many = self.random.randint(1, most)
        self.numbers = tuple(sorted(self.random.sample(range(2, 200), many)))
        begun = self.beginning()[:many]
        statements = begun + [self.statement() for _ in range(many - len(begun))]
        return tuple(zip(self.numbers, statements))

    def inputs(self):
        return [self.one_of(WORTHS) for _ in range(self.random.randint(0, 4))]
