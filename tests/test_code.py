"""Point 14: the rows made of programs, and whether things are such rows."""

import unittest

from numberedlines.code import is_code, made
from numberedlines.words import is_expression, is_program
from stepping import below, box, number, text
from things import HUNDRED_FIGURES, ODD, is_plain, is_same, nested

TOP = 10 ** 12
SIGNS = ("+", "-", "*", "/", "rest", "<", "=", ">", "and", "or")

# Each statement, and the rows of it.
MADE = (
    (("set", "a", number(1)), (("push", 1), ("do", "set", "a"))),
    (("setcell", "r", number(1), text("x")), (("push", 1), ("push", "x"), ("do", "setcell", "r"))),
    (("say", ()), (("do", "say", 0),)),
    (("say", (box("a"),)), (("box", "a"), ("do", "say", 1))),
    (("say", (number(1), number(2), number(3), number(4), number(5))),
     (("push", 1), ("push", 2), ("push", 3), ("push", 4), ("push", 5), ("do", "say", 5))),
    (("ask", "a"), (("do", "ask", "a"),)),
    (("go", 7), (("do", "go", 7),)),
    (("goby", number(7)), (("push", 7), ("do", "goby"))),
    (("call", 7), (("do", "call", 7),)),
    (("back",), (("do", "back"),)),
    (("when", number(0), 7), (("push", 0), ("do", "when", 7))),
    (("pick", number(2), "go", (1, 2)), (("push", 2), ("do", "pick", "go", (1, 2)))),
    (("pick", number(2), "call", (3,)), (("push", 2), ("do", "pick", "call", (3,)))),
    (("loop", "i", number(1), number(2), below(3)),
     (("push", 1), ("push", 2), ("push", 0), ("push", 3), ("two", "-"), ("do", "loop", "i"))),
    (("again", "i"), (("do", "again", "i"),)),
    (("data", (1, "x", -2)), (("do", "data", (1, "x", -2)),)),
    (("read", "a"), (("do", "read", "a"),)),
    (("anew", None), (("do", "anew", None),)),
    (("anew", 7), (("do", "anew", 7),)),
    (("row", "r", number(9)), (("push", 9), ("do", "row", "r"))),
    (("fit", "f", "x", ("+", box("x"), ("fit", "g", box("y")))),
     (("do", "fit", "f", "x", ("+", box("x"), ("fit", "g", box("y")))),)),
    (("trap", 0), (("do", "trap", 0),)),
    (("trap", 7), (("do", "trap", 7),)),
    (("retry",), (("do", "retry"),)),
    (("pass",), (("do", "pass"),)),
    (("stop",), (("do", "stop"),)),
    (("end",), (("do", "end"),)),
    (("note", "end"), (("do", "note", "end"),)),
)

# Each expression, and the rows that lay its worth.
LAID = (
    (number(0), (("push", 0),)),
    (number(TOP), (("push", TOP),)),
    (text(""), (("push", ""),)),
    (box("a"), (("box", "a"),)),
    (("cell", "r", number(3)), (("push", 3), ("cell", "r"))),
    (("fit", "f", number(3)), (("has", "f"), ("push", 3), ("fit", "f"))),
    (("fit", "f", ("fit", "g", box("a"))), (("has", "f"), ("has", "g"), ("box", "a"), ("fit", "g"), ("fit", "f"))),
    (("+", ("fit", "f", box("a")), ("fit", "f", box("b"))),
     (("has", "f"), ("box", "a"), ("fit", "f"), ("has", "f"), ("box", "b"), ("fit", "f"), ("two", "+"))),
    (("not", box("a")), (("box", "a"), ("one", "not"))),
    (("size", text("x")), (("push", "x"), ("one", "size"))),
    (("part", text("xy"), number(1), number(2)), (("push", "xy"), ("push", 1), ("push", 2), ("part",))),
    (("why",), (("why",),)),
    (("where",), (("where",),)),
    (("-", ("*", number(1), number(2)), number(3)),
     (("push", 1), ("push", 2), ("two", "*"), ("push", 3), ("two", "-"))),
) + tuple(((sign, box("a"), number(2)), (("box", "a"), ("push", 2), ("two", sign))) for sign in SIGNS)


class Made(unittest.TestCase):
    def test_the_rows_of_each_statement(self):
        for statement, rows in MADE:
            program = ((10, statement),)
            self.assertTrue(is_program(program), program)
            self.assertTrue(is_same(made(program), ((10, rows),)), (statement, made(program)))

    def test_the_rows_of_each_expression(self):
        for expression, rows in LAID:
            self.assertTrue(is_expression(expression), expression)
            program = ((10, ("goby", expression)), (20, ("setcell", "r", expression, expression)))
            told = ((10, (*rows, ("do", "goby"))), (20, (*rows, *rows, ("do", "setcell", "r"))))
            self.assertTrue(is_same(made(program), told), made(program))

    def test_a_tuple_of_each_lines_rows(self):
        self.assertTrue(is_same(made(()), ()))
        program = tuple((at + 1, statement) for at, (statement, _) in enumerate(MADE))
        self.assertTrue(is_same(made(program), tuple((at + 1, rows) for at, (_, rows) in enumerate(MADE))))
        hundred = tuple((9900 + at, ("end",)) for at in range(100))
        self.assertEqual(made(hundred), tuple((9900 + at, (("do", "end"),)) for at in range(100)))

    def test_it_is_code_of_plain_kinds_and_the_same_each_time(self):
        program = tuple((at + 1, statement) for at, (statement, _) in enumerate(MADE))
        before = repr(program)
        self.assertTrue(is_code(made(program)))
        self.assertTrue(is_plain(made(program)))
        self.assertTrue(is_same(made(program), made(program)))
        self.assertEqual(repr(program), before)

    def test_the_act_is_the_last_row_and_only_that(self):
        program = tuple((at + 1, statement) for at, (statement, _) in enumerate(MADE))
        for (_, rows), (_, statement) in zip(made(program), program):
            self.assertEqual([row[0] == "do" for row in rows], [False] * (len(rows) - 1) + [True])
            self.assertEqual(rows[-1][1], statement[0])

    def test_the_greatest_line_is_code_still(self):
        chain = number(1)
        for _ in range(6):
            chain = ("fit", "f", chain)
        wide = ("part", chain, chain, chain)
        self.assertTrue(is_expression(wide))
        program = ((10, ("say", (wide,) * 5)),)
        self.assertTrue(is_code(made(program)))


def code(*rows, number_of_line=10):
    return ((number_of_line, tuple(rows)),)


END = ("do", "end")
PLAIN_ROWS = (
    ("push", 0), ("push", -TOP), ("push", TOP), ("push", ""), ("push", "x" * 100), ("box", "a"), ("why",), ("where",),
    ("cell", "abcdefgh"), ("fit", "f"), ("one", "not"), ("one", "size"), ("part",), ("has", "f"),
) + tuple(("two", sign) for sign in SIGNS)
ACTS = tuple(rows[-1] for _, rows in MADE) + (
    ("do", "say", 2), ("do", "say", 3), ("do", "say", 4), ("do", "go", 1), ("do", "go", 9999), ("do", "trap", 9999),
    ("do", "pick", "go", (1,) * 6), ("do", "data", ("",) * 6), ("do", "fit", "f", "f", ("why",)), ("do", "note", ""),
)
WRONG_ROWS = (
    ("push",), ("push", 1, 1), ("push", True), ("push", None), ("push", TOP + 1), ("push", -TOP - 1), ("push", 'a"'),
    ("push", "x" * 101), ("push", "\n"), ("push", ()), ("push", [1]), ("push", {}), ("box",), ("box", "a", "a"),
    ("box", "A"), ("box", 1), ("box", "go"), ("box", None), ("box", ["a"]), ("box", ""), ("box", "abcdefghi"),
    ("why", 1), ("why", None), ("where", "a"), ("cell",), ("cell", "a", 1), ("cell", True), ("cell", "to"), ("fit",),
    ("fit", "f", "x"), ("fit", "why"), ("fit", {}), ("one",), ("one", "not", 1), ("one", "+"), ("one", "part"),
    ("one", True), ("one", ["not"]), ("one", "Not"), ("one", "number"), ("two",), ("two", "+", 1), ("two", "not"),
    ("two", "=="), ("two", "part"), ("two", 1), ("two", ["+"]), ("two", "cell"), ("two", "fit"), ("part", 1),
    ("part", ()), ("has",), ("has", "f", 1), ("has", "by"), ("has", None), (), ("nothing",), ("number", 1),
    ("set", "a"), ("not",), ("+",), ("size",), (["push"], 1), (None,), (True, 1), ({}, 1), "why", ["why"], ["push", 1],
    None, 1, True, {"push": 1},
)
WRONG_ACTS = (
    ("do",), ("do", None), ("do", "nothing"), ("do", "number"), ("do", ["end"]), ("do", {}), ("do", True), ("do", 1),
    ("do", ()), ("end",), ("do", "end", 1), ("do", "set"), ("do", "set", "go"), ("do", "set", "a", number(1)),
    ("do", "setcell"), ("do", "setcell", 1), ("do", "setcell", "r", 1), ("do", "say"), ("do", "say", -1),
    ("do", "say", 6), ("do", "say", True), ("do", "say", False), ("do", "say", ()), ("do", "say", None),
    ("do", "say", "1"), ("do", "say", 1, 1), ("do", "ask"), ("do", "ask", "A"), ("do", "ask", "a", "b"), ("do", "go"),
    ("do", "go", 0), ("do", "go", 10000), ("do", "go", True), ("do", "go", 1, 1), ("do", "goby", 1), ("do", "call"),
    ("do", "call", 0), ("do", "call", None), ("do", "back", 1), ("do", "when"), ("do", "when", 0),
    ("do", "when", number(1), 7), ("do", "pick", "go"), ("do", "pick", "by", (1,)), ("do", "pick", "go", ()),
    ("do", "pick", "go", (1,) * 7), ("do", "pick", "go", [1]), ("do", "pick", "go", (0,)), ("do", "pick", (1,), "go"),
    ("do", "pick", "go", (True,)), ("do", "loop"), ("do", "loop", "i", 1), ("do", "loop", 7), ("do", "again"),
    ("do", "again", "I"), ("do", "data"), ("do", "data", ()), ("do", "data", (1,) * 7), ("do", "data", [1]),
    ("do", "data", (True,)), ("do", "data", (None,)), ("do", "data", 1, 2), ("do", "read"), ("do", "read", 1),
    ("do", "anew"), ("do", "anew", 0), ("do", "anew", False), ("do", "anew", 10000), ("do", "row"),
    ("do", "row", "r", 1), ("do", "row", "or"), ("do", "fit"), ("do", "fit", "f"), ("do", "fit", "f", "x"),
    ("do", "fit", "f", "x", ("box",)), ("do", "fit", "f", ("box", "x")), ("do", "fit", "f", "x", ["why"]),
    ("do", "fit", "f", "x", ("number", -1)), ("do", "fit", "f", "x", ("why",), 1), ("do", "trap"),
    ("do", "trap", None), ("do", "trap", -1), ("do", "trap", False), ("do", "trap", 10000), ("do", "retry", 1),
    ("do", "pass", None), ("do", "stop", ()), ("do", "note"), ("do", "note", 1), ("do", "note", 'a"'),
    ("do", "note", "x" * 101), ["do", "end"], "do", "end", None, {"do": "end"}, (["do"], "end"), ("Do", "end"),
)


class IsCode(unittest.TestCase):
    def assert_is(self, thing, told):
        before = repr(thing)
        self.assertIs(is_code(thing), told, repr(thing)[:300])
        self.assertEqual(repr(thing), before)

    def test_each_row_and_each_act(self):
        for row in PLAIN_ROWS:
            self.assert_is(code(row, END), True)
            self.assert_is(code(("box", "a"), row, row, END), True)
        for act in ACTS:
            self.assert_is(code(act), True)
            self.assert_is(code(("push", 1), ("push", 2), act), True)

    def test_rows_that_no_program_has_are_code_too(self):
        self.assert_is(code(("two", "+"), ("part",), END), True)
        self.assert_is(code(("push", -1), ("push", -1), ("do", "set", "a")), True)

    def test_wrong_rows(self):
        for row in WRONG_ROWS:
            self.assert_is(code(row, END), False)
            self.assert_is(code(("push", 1), row, END), False)
            self.assert_is(code(row, ("push", 1), END), False)
            self.assert_is(code(row), False)

    def test_wrong_acts(self):
        for act in WRONG_ACTS:
            self.assert_is(code(act), False)
            self.assert_is(code(("push", 1), act), False)

    def test_each_part_missing_or_one_more(self):
        for row in PLAIN_ROWS:
            for part in (None, 1, "a", ()):
                self.assert_is(code((*row, part), END), False)
            if len(row) > 1:
                self.assert_is(code(row[:-1], END), False)
        for act in ACTS:
            for part in (None, 1, "a", ()):
                self.assert_is(code((*act, part)), False)
            if len(act) > 2:
                self.assert_is(code(act[:-1]), False)

    def test_lists_in_the_place_of_tuples(self):
        for row in PLAIN_ROWS:
            self.assert_is(code(list(row), END), False)
        for act in ACTS:
            self.assert_is(code(list(act)), False)
        self.assert_is([(10, (END,))], False)
        self.assert_is(([10, (END,)],), False)
        self.assert_is(((10, [END]),), False)

    def test_the_act_is_the_last_and_only_there(self):
        self.assert_is(code(), False)
        self.assert_is(code(("push", 1)), False)
        self.assert_is(code(END, ("push", 1)), False)
        self.assert_is(code(END, END), False)
        self.assert_is(code(("push", 1), END, ("push", 1), END), False)
        self.assert_is(code(("push", 1), ("do", "set", "a"), END), False)

    def test_numbers_of_lines(self):
        for wrong in (0, -1, 10000, True, False, None, "10", (10,), [10], HUNDRED_FIGURES):
            self.assert_is(code(END, number_of_line=wrong), False)
        for right in (1, 2, 9999):
            self.assert_is(code(END, number_of_line=right), True)

    def test_numbers_that_do_not_rise(self):
        for numbers, told in (((1, 2), True), ((1, 9999), True), ((1, 1), False), ((2, 1), False), ((1, 3, 2), False),
                              ((1, 2, 2), False), ((1, 2, 3), True), ((3, 2, 4), False)):
            self.assert_is(tuple((number_of_line, (END,)) for number_of_line in numbers), told)

    def test_a_hundred_lines_and_one_more(self):
        for many, told in ((0, True), (99, True), (100, True), (101, False)):
            self.assert_is(tuple((at + 1, (END,)) for at in range(many)), told)

    def test_four_hundred_rows_and_one_more(self):
        for many, told in ((1, True), (399, True), (400, True), (401, False)):
            self.assert_is(code(*[("why",)] * (many - 1), END), told)
        long = code(*[("why",)] * 399, END) + ((11, (("why",),) * 400 + (END,)),)
        self.assert_is(long, False)

    def test_lines_of_another_form(self):
        for line in ((10,), (10, (END,), 1), (10, END), ((END,), 10), (10, ()), (10, None), 10, (), None, (10, "end"),
                     (10, (END,), (END,)), [10, (END,)], {10: (END,)}):
            self.assert_is((line,), False)
            self.assert_is(((5, (END,)), line), False)
        self.assert_is((10, (END,)), False)

    def test_a_program_is_none(self):
        self.assert_is(((10, ("end",)),), False)

    def test_of_anything(self):
        for thing in ODD + (None, 0, 1, -1, "", "end", "do"):
            self.assert_is(thing, False)
            self.assert_is((thing,), False)
            self.assert_is(((10, thing),), False)
            self.assert_is(code(thing), False)
            self.assert_is(code(thing, END), False)
            self.assert_is(code(END, number_of_line=thing) if thing != 1 or thing is True else None, False)
        self.assert_is((), True)
        for depth in (2, 10, 26):
            self.assert_is(code(("do", "fit", "f", "x", nested(tuple, depth))), False)


if __name__ == "__main__":
    unittest.main()
