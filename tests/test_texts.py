"""Point 25: how expressions, lines and programs are written."""

import unittest

from numberedlines import words
from numberedlines.texts import show_expression, show_line, show_program
from numberedlines.words import is_expression, is_line, is_program
from asking import Asking
from written import EXPRESSIONS, STATEMENTS


class Expressions(Asking):
    def test_each(self):
        for expression, written in EXPRESSIONS:
            self.assertTrue(is_expression(expression), expression)
            self.assert_told(written, show_expression, expression)

    def test_no_word_is_left_out(self):
        shown = {expression[0] for expression, _ in EXPRESSIONS}
        self.assertEqual(shown, set(words.EXPRESSIONS))


class Lines(Asking):
    def test_each(self):
        for statement, written in STATEMENTS:
            for number in (1, 10, 9999):
                self.assertTrue(is_line((number, statement)), statement)
                self.assert_told(f"{number} {written}", show_line, (number, statement))

    def test_each_expression_in_a_line(self):
        for expression, written in EXPRESSIONS:
            for statement, around in (
                (("set", "a", expression), f"set a = {written}"),
                (("say", (expression, expression)), f"say {written}; {written}"),
                (("when", expression, 10), f"when {written} go 10"),
                (("fit", "f", "x", expression), f"fit f(x) = {written}"),
                (("loop", "i", expression, expression, expression), f"loop i = {written} to {written} by {written}"),
                (("setcell", "r", expression, expression), f"set r[{written}] = {written}"),
            ):
                self.assert_told("10 " + around, show_line, (10, statement))

    def test_no_word_is_left_out(self):
        self.assertEqual({statement[0] for statement, _ in STATEMENTS}, set(words.STATEMENTS))

    def test_no_two_lines_are_written_alike(self):
        self.assertEqual(len({show_line((10, statement)) for statement, _ in STATEMENTS}), len(STATEMENTS))


class Programs(Asking):
    def test_none_one_and_a_hundred(self):
        self.assert_told("", show_program, ())
        self.assert_told("10 end\n", show_program, ((10, ("end",)),))
        self.assert_told("9999 note \n", show_program, ((9999, ("note", "")),))
        hundred = tuple((at, ("go", at)) for at in range(1, 101))
        self.assert_told("".join(f"{at} go {at}\n" for at in range(1, 101)), show_program, hundred)

    def test_all_statements(self):
        program = tuple((10 * at, statement) for at, (statement, _) in enumerate(STATEMENTS, start=1))
        self.assertTrue(is_program(program))
        told = "".join(f"{10 * at} {written}\n" for at, (_, written) in enumerate(STATEMENTS, start=1))
        self.assert_told(told, show_program, program)


if __name__ == "__main__":
    unittest.main()
