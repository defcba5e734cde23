"""Point 27: what is written is read back, and what isn't is refused."""

import unittest

from numberedlines.errors import NoText
from numberedlines.reader import read_expression, read_line, read_program
from numberedlines.texts import show_expression, show_line, show_program
from numberedlines.words import is_expression, is_line, is_program
from asking import Refusing
from programs import Chance
from stepping import box, number
from things import ODD
from written import EXPRESSIONS, GREAT, LONG, SIGNS, STATEMENTS

A = box("a")
NO_TEXTS = (None, 10, (), ("10 end",), ["10 end"], {"10 end": 1}, *[thing for thing in ODD if not isinstance(thing, str)])


def nested(many):
    """An expression so many deep."""
    expression = A
    for _ in range(many - 1):
        expression = ("not", expression)
    return expression


def balanced(many):
    """An expression of so many in all, an odd number, its parts about even."""
    if many == 1:
        return A
    left = (many - 1) // 2
    left += 1 - left % 2
    return ("+", balanced(left), balanced(many - 1 - left))


def mutants(text):
    """The text with a sign left out, put in or exchanged, each in each place."""
    others = ' "(),;=-[]0a1zA\n!'
    for at in range(len(text) + 1):
        for other in others:
            yield text[:at] + other + text[at:]
            if at < len(text):
                yield text[:at] + other + text[at + 1:]
        if at < len(text):
            yield text[:at] + text[at + 1:]
            yield text[:at] + text[at] + text[at:]


class Reading(Refusing):
    def assert_read_or_refused(self, read, show, test, text):
        """What is read is such a thing, and written just so; all else is refused at line 0."""
        try:
            thing = read(text)
        except NoText as refusal:
            self.assertEqual(repr(refusal.line), "0", text)
            return False
        self.assertTrue(test(thing), text)
        self.assertEqual(show(thing), text)
        return True


class Expressions(Reading):
    def test_what_is_written_is_read_back(self):
        for expression, written in EXPRESSIONS:
            self.assert_told(expression, read_expression, written)

    def test_drawn_ones(self):
        for seed in range(600):
            expression = Chance(seed).expression(deep=7)
            if is_expression(expression):
                self.assert_told(expression, read_expression, show_expression(expression))

    def test_signs_left_out_put_in_and_exchanged(self):
        read = 0
        for expression, written in EXPRESSIONS:
            for text in mutants(written) if len(written) < 50 else ():
                read += self.assert_read_or_refused(read_expression, show_expression, is_expression, text)
        self.assertGreater(read, 500)

    def test_blanks_too_few_and_too_many(self):
        for text in (" a", "a ", "(a+b)", "( a + b)", "(a + b )", "(a  + b)", "(a +  b)", "(a +b)", "(a+ b)", "f (a)", "f( a)",
                     "f(a )", "r [a]", "r[ a]", "r[a ]", "not (a)", "size( a)", "part(a,1, 1)", "part(a , 1, 1)", "part(a,  1, 1)",
                     "part (a, 1, 1)", " why", "where ", "(aand b)", "(a andb)", "(a  and b)", "1 ", ' "a"', '"a" '):
            self.assert_refused(0, read_expression, text)

    def test_what_is_none(self):
        for text in ("", " ", "()", "(a)", "((a))", "((a + b))", "(a +)", "(+ a)", "(a + b", "a + b)", "a + b", "(a + b + c)",
                     "(a b)", "f()", "f(a, b)", "f(a", "r[]", "r[a", "r[a)", "f(a]", "(a + b]", "not()", "not a", "not(a, b)",
                     "not", "size", "part", "part(a, b)", "part(a)", "part(a, b, c, d)", "part(a; b; c)", "why()", "where(a)",
                     "why(a)", "why[a]", "-1", "(-1 + a)", "+1", "1.0", "1e5", "1_000", "1a", "a1", "a b", "a a", "1 1", "a,", ",",
                     ";", "=", "(a == b)", "(a <> b)", "(a < = b)", "(a - - b)", "(a mod b)", "(a not b)", "(a size b)",
                     "(a to b)", "10 end", "10 note x", "say a", "a\n", "\na", "(a\n+ b)", "a\nb", "(a + b)\n", "\n", "A", "a!"):
            self.assert_refused(0, read_expression, text)

    def test_noughts_ahead(self):
        self.assert_told(number(0), read_expression, "0")
        for text in ("00", "01", "007", "(a + 00)", "r[01]", "0" * 5000, "0" * 5000 + "1"):
            self.assert_refused(0, read_expression, text)

    def test_numbers_beyond_their_bounds(self):
        self.assert_told(number(GREAT), read_expression, str(GREAT))
        for text in (str(GREAT + 1), "9" * 13, "9" * 100, "1" + "0" * 4300, "9" * 5000, "9" * 20000, f"(a + {'9' * 5000})",
                     f"r[{'9' * 5000}]"):
            self.assert_refused(0, read_expression, text)

    def test_texts(self):
        self.assert_told(("text", LONG), read_expression, f'"{LONG}"')
        for text in (f'"{LONG}x"', f'("a" + "{LONG}x")', '"', '"a', '"a""', '""a', '"a\n"', '"' + "x" * 19998 + '"'):
            self.assert_refused(0, read_expression, text)

    def test_names_that_are_none(self):
        self.assert_told(box("abcdefgh"), read_expression, "abcdefgh")
        for name in ("abcdefghi", "and", "or", "rest", "to", "by", "go", "call", "A", "aB", "a_b", "x" * 20000):
            for text in (name, f"{name}[a]", f"{name}(a)", f"({name} + a)"):
                self.assert_refused(0, read_expression, text)
        for name in ("not", "size", "part", "why", "where"):
            self.assert_refused(0, read_expression, f"{name}[a]")

    def test_eight_and_nine_deep(self):
        self.assert_told(nested(8), read_expression, "not(" * 7 + "a" + ")" * 7)
        for text in ("not(" * 8 + "a" + ")" * 8, "f(" * 8 + "a" + ")" * 8, "r[" * 8 + "a" + "]" * 8,
                     "(" * 8 + "a" + " + a)" * 8, "(a + " * 8 + "a" + ")" * 8, "part(" * 8 + "a" + ", a, a)" * 8):
            self.assert_refused(0, read_expression, text)
        self.assertEqual(read_expression("(" * 7 + "a" + " + a)" * 7)[0], "+")
        self.assertEqual(read_expression("(a + " * 7 + "a" + ")" * 7)[0], "+")

    def test_forty_and_more_in_all(self):
        forty = ("not", balanced(39))
        self.assertTrue(is_expression(forty))
        self.assert_told(forty, read_expression, show_expression(forty))
        for more in (balanced(41), ("not", ("not", balanced(39)))):
            self.assertFalse(is_expression(more))
            self.assert_refused(0, read_expression, show_expression(more))

    def test_more_than_a_thousand_brackets_nested(self):
        for many in (1001, 5000):
            for text in ("(" * many, "(" * many + "a" + ")" * many, "(" * many + "a" + " + a)" * many, "f(" * many,
                         "f(" * many + "a" + ")" * many, "r[" * many + "a" + "]" * many, "not(" * many + "a" + ")" * many,
                         ")" * many, "[" * many, "(a + " * many + "a" + ")" * many):
                self.assert_refused(0, read_expression, text[:20000])

    def test_what_is_no_text(self):
        for thing in NO_TEXTS:
            self.assert_refused(None, read_expression, thing)


class Lines(Reading):
    def test_what_is_written_is_read_back(self):
        for statement, written in STATEMENTS:
            for at in (1, 10, 9999):
                self.assert_told((at, statement), read_line, f"{at} {written}")

    def test_each_expression_in_a_line(self):
        for expression, written in EXPRESSIONS:
            for line in ((10, ("say", (expression, A))), (10, ("goby", expression)), (10, ("pick", expression, "go", (1, 2))),
                         (10, ("setcell", "r", expression, expression)), (10, ("when", expression, 7)),
                         (10, ("loop", "i", expression, expression, expression)), (10, ("fit", "f", "x", expression))):
                self.assert_told(line, read_line, show_line(line))

    def test_signs_left_out_put_in_and_exchanged(self):
        read = 0
        for statement, written in STATEMENTS:
            for text in mutants(f"10 {written}") if len(written) < 50 else ():
                read += self.assert_read_or_refused(read_line, show_line, is_line, text)
        self.assertGreater(read, 1000)

    def test_blanks_too_few_and_too_many(self):
        for text in (" 10 end", "10  end", "10 end ", "10end", "10 set a=1", "10 set a =1", "10 set a= 1", "10 set  a = 1",
                     "10 set r [a] = 1", "10 set r[a]= 1", "10 say ", "10 say  a", "10 say a;b", "10 say a ; b", "10 say a;  b",
                     "10 go  5", "10 go5", "10 go  by a", "10 goby a", "10 pick a go 1,2", "10 pick a go 1 , 2", "10 pick a  go 1",
                     "10 data 1,2", "10 data - 1", "10 data  1", "10 data 1 , 2", "10 anew ", "10 anew  5", "10 row r [1]",
                     "10 fit f (x) = 1", "10 fit f( x) = 1", "10 note", "10  note x", " 10 note x", "10note x", "10 loop i=1 to 2 by 1",
                     "10 loop i = 1  to 2 by 1", "10 loop i = 1 to 2 by 1 ", "10 trap  0", "10 back ", "10 say(a + b)"):
            self.assert_refused(0, read_line, text)

    def test_what_is_none(self):
        for text in ("", " ", "10", "10 ", "end", "end 10", "a end", "-10 end", "10 nothing", "10 10", "10 end end", "10 end 20",
                     "10 set", "10 set a", "10 set a =", "10 set a = 1 2", "10 set 1 = a", "10 set a + 1", "10 set r[] = 1",
                     "10 set r[1] 1", "10 setcell r[1] = 1", "10 set r(1) = 1", "10 say a;", "10 say ;", "10 say a, b", "10 ask",
                     "10 ask 1", "10 ask a b", "10 go", "10 go a", "10 go -5", "10 go by", "10 go to 5", "10 go 5, 6", "10 call",
                     "10 call a", "10 back 5", "10 when a", "10 when go 5", "10 when a go", "10 when a call 5", "10 when a go b",
                     "10 pick a", "10 pick a go", "10 pick a by 5", "10 pick a go 5,", "10 pick a go 5; 6", "10 loop i = 1 to 2",
                     "10 loop i = 1 by 2", "10 loop i = 1 by 2 to 3", "10 loop i 1 to 2 by 3", "10 again", "10 again 1", "10 data",
                     "10 data a", "10 data 1; 2", "10 data 1,", "10 data --1", "10 data +1", "10 data (1)", '10 data -"a"', "10 read",
                     "10 read 1", "10 anew a", "10 anew 5, 6", "10 anew None", "10 row r", "10 row r[1", "10 row r(1)", "10 row r[1] = 2",
                     "10 fit f = 1", "10 fit f(1) = 1", "10 fit f(x)", "10 fit f[x] = 1", "10 fit f(x, y) = 1", "10 trap", "10 trap a",
                     "10 retry 5", "10 pass 5", "10 stop 5", '10 note "', '10 note "a"', "10 NOTE x", "10 End", "10 set A = 1",
                     "10 goby a", "10 text x", "10 box a", "10 number 5"):
            self.assert_refused(0, read_line, text)

    def test_numbers(self):
        for text in ("0 end", "00 end", "010 end", "10000 end", "-1 end", "99999 end", "10 go 0", "10 go 010", "10 go 10000",
                     "10 call 0", "10 when a go 0", "10 pick a go 1, 0", "10 pick a go 10000", "10 anew 0", "10 anew 10000",
                     "10 trap 00", "10 trap 10000", "10 trap -1", "10 data 00", "10 data -0", "10 data 01", "10 data -01",
                     f"10 data {GREAT + 1}", f"10 data -{GREAT + 1}", f"10 set a = {GREAT + 1}", "10 set a = -1"):
            self.assert_refused(0, read_line, text)

    def test_more_than_4300_digits(self):
        figures = "9" * 5000
        for text in (figures, f"{figures} end", f"{figures} note x", f"10 go {figures}", f"10 data {figures}", f"10 data -{figures}",
                     f"10 data 1, {figures}", f"10 pick a go 1, {figures}", f"10 say {figures}", f"10 trap {figures}",
                     f"10 anew {figures}", f"{'0' * 5000}10 end", f"10 set a{figures} = 1"):
            self.assert_refused(0, read_line, text)

    def test_texts_of_a_hundred_and_of_a_hundred_and_one_signs(self):
        for text in (f'10 data "{LONG}x"', f"10 note {LONG}x", f'10 say "{LONG}x"', "10 note " + "x" * 19000):
            self.assert_refused(0, read_line, text)
        self.assert_told((10, ("note", SIGNS)), read_line, "10 note " + SIGNS)

    def test_names_that_are_none(self):
        for name in ("abcdefghi", "and", "or", "not", "rest", "size", "part", "why", "where", "to", "by", "go", "call", "A", "a1"):
            for text in (f"10 set {name} = 1", f"10 set {name}[1] = 1", f"10 ask {name}", f"10 loop {name} = 1 to 2 by 3",
                         f"10 again {name}", f"10 read {name}", f"10 row {name}[1]", f"10 fit {name}(x) = 1", f"10 fit f({name}) = 1"):
                self.assert_refused(0, read_line, text)

    def test_how_many(self):
        self.assert_told((10, ("say", (A,) * 5)), read_line, "10 say a; a; a; a; a")
        self.assert_refused(0, read_line, "10 say a; a; a; a; a; a")
        self.assert_told((10, ("data", (1,) * 6)), read_line, "10 data 1, 1, 1, 1, 1, 1")
        self.assert_refused(0, read_line, "10 data 1, 1, 1, 1, 1, 1, 1")
        self.assert_told((10, ("pick", A, "call", (1,) * 6)), read_line, "10 pick a call 1, 1, 1, 1, 1, 1")
        self.assert_refused(0, read_line, "10 pick a call 1, 1, 1, 1, 1, 1, 1")
        self.assert_refused(0, read_line, "10 say " + "; ".join(["a"] * 5000))

    def test_how_deep_and_how_many_in_all(self):
        deep = "not(" * 7 + "a" + ")" * 7
        forty = show_expression(("not", balanced(39)))
        for right, wrong in ((deep, f"not({deep})"), (forty, f"not({forty})")):
            for text in ("10 set a = {}", "10 say a; {}", "10 when {} go 5", "10 loop i = a to {} by a", "10 set r[{}] = 1",
                         "10 fit f(x) = {}", "10 go by {}", "10 row r[{}]", "10 pick {} go 5"):
                self.assertEqual(show_line(read_line(text.format(right))), text.format(right))
                self.assert_refused(0, read_line, text.format(wrong))

    def test_more_than_a_thousand_brackets_nested(self):
        for inner in ("(" * 5000, "f(" * 2000 + "a" + ")" * 2000, "(" * 2000 + "a" + " + a)" * 2000, "r[" * 2000 + "a" + "]" * 2000):
            for text in ("10 say ", "10 set a = ", "10 set r[", "10 when ", "10 data ", "10 ", ""):
                self.assert_refused(0, read_line, text + inner)

    def test_line_ends(self):
        for text in ("\n", "10 end\n", "\n10 end", "10 end\n20 end", "10\nend", "10 note x\n", "10 note x\ny", '10 say "a\nb"',
                     "10 end\r", "10 note x\r"):
            self.assert_refused(0, read_line, text)

    def test_what_is_no_text(self):
        for thing in NO_TEXTS:
            self.assert_refused(None, read_line, thing)

    def test_drawn_ones(self):
        for seed in range(300):
            for line in Chance(seed).program():
                self.assert_told(line, read_line, show_line(line))


class Programs(Reading):
    def test_the_empty_text(self):
        self.assert_told((), read_program, "")

    def test_what_is_written_is_read_back(self):
        program = tuple((10 * at, statement) for at, (statement, _) in enumerate(STATEMENTS, start=1))
        for told in (program, program[:1], program[5:7], ((1, ("end",)), (9999, ("end",)))):
            self.assert_told(told, read_program, show_program(told))

    def test_drawn_ones(self):
        for seed in range(300):
            program = Chance(seed).program()
            self.assert_told(program, read_program, show_program(program))

    def test_a_last_line_without_its_end(self):
        for text, line in (("10 end", 0), ("10 end\n20 end", 1), ("10 end\n20 end\n30", 2), ("1", 0), (" ", 0), ("10 end\n ", 1),
                           ("10 end\nwrong", 1), ("10 note ", 0), ("9999 end\n9999 end", 1)):
            self.assert_refused(line, read_program, text)

    def test_a_line_that_is_none(self):
        for wrong in ("", " ", "end", "10", "20 nothing", "20 end ", " 20 end", "20  end", "020 end", "20 set a=1", "20 go 0",
                      '20 note "', "20 end\r", "(" * 3000, "20 go " + "9" * 5000, "9" * 5000, "20 say " + "not(" * 1500):
            self.assert_refused(0, read_program, f"{wrong}\n10 end\n30 end\n")
            self.assert_refused(1, read_program, f"10 end\n{wrong}\n30 end\n")
            self.assert_refused(2, read_program, f"10 end\n15 end\n{wrong}\n")
            self.assert_refused(0, read_program, f"{wrong}\n")
            # The first one is told.
            self.assert_refused(1, read_program, f"10 end\n{wrong}\n{wrong}\n{wrong}")
            self.assert_refused(1, read_program, f"10 end\n{wrong}\n5 end")

    def test_numbers_that_do_not_rise(self):
        for text, line in (("10 end\n10 end\n", 1), ("10 end\n9 end\n", 1), ("10 end\n20 end\n20 end\n", 2),
                           ("10 end\n20 end\n15 end\n30 end\n", 2), ("9999 end\n1 end\n", 1), ("9999 end\n10000 end\n", 1),
                           ("10 end\n10 end\nwrong\n", 1), ("10 end\nwrong\n10 end\n", 1), ("10 end\n9 end", 1)):
            self.assert_refused(line, read_program, text)

    def test_a_hundred_lines_and_one_more(self):
        def written(many):
            return "".join(f"{at} end\n" for at in range(1, many + 1))

        self.assert_told(tuple((at, ("end",)) for at in range(1, 101)), read_program, written(100))
        for text in (written(101), written(102), written(1000), written(100) + "200 end", written(100) + "wrong", written(100) + "\n",
                     written(100) + "5 end\n"):
            self.assert_refused(100, read_program, text)

    def test_line_ends(self):
        for text, line in (("\n", 0), ("\n\n", 0), ("10 end\n\n", 1), ("10 end\n\n20 end\n", 1), ("\n10 end\n", 0), ("10 end\r\n", 0),
                           ("10 end\n20 end\r\n", 1), ("10 end\r20 end\n", 0), ("10 end\n\r\n", 1), ("10 note x\r\n", 0),
                           ("10 end\n\r", 1), ('10 say "a\nb"\n', 0)):
            self.assert_refused(line, read_program, text)

    def test_what_is_no_text(self):
        for thing in NO_TEXTS:
            self.assert_refused(None, read_program, thing)

    def test_what_is_read_is_a_program(self):
        text = "10 ask n\n20 say (n + 1); \"x\"\n30 note \n"
        program = read_program(text)
        self.assertTrue(is_program(program))
        self.assertEqual(show_program(program), text)
        for other in mutants(text):
            try:
                self.assertEqual(show_program(read_program(other)), other)
            except NoText as refusal:
                lines = other.split("\n")
                ahead = "".join(line + "\n" for line in lines[:refusal.line])
                self.assertEqual(show_program(read_program(ahead)), ahead)
                with self.assertRaises(NoText):
                    read_program(ahead + lines[refusal.line] + ("\n" if refusal.line < len(lines) - 1 else ""))


if __name__ == "__main__":
    unittest.main()
