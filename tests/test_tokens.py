"""Point 26: written lines cut into tokens, and put together again."""

import unittest

from numberedlines.texts import show_expression, show_line
from numberedlines.tokens import put_together, tokens
from asking import Asking, Refusing
from programs import Chance
from things import ODD
from written import EXPRESSIONS, LONG, SIGNS, STATEMENTS

ALL_SIGNS = "()[],;=+-*/<>"


def word(text):
    return ("word", text)


def figures(text):
    return ("figures", text)


def sign(text):
    return ("sign", text)


class Tokens(Refusing):
    def assert_tokens(self, text, *told):
        self.assert_told(list(told), tokens, text)

    def test_none(self):
        for text in ("", " ", "     "):
            self.assert_tokens(text)

    def test_each_kind(self):
        self.assert_tokens("abc", word("abc"))
        self.assert_tokens("z", word("z"))
        self.assert_tokens("0123456789", figures("0123456789"))
        self.assert_tokens('""', ("text", '""'))
        self.assert_tokens('"a b"', ("text", '"a b"'))
        self.assert_tokens(f'"{SIGNS}"', ("text", f'"{SIGNS}"'))
        self.assert_tokens("10 note a b", figures("10"), word("note"), ("note", "a b"))

    def test_all_signs(self):
        for one in ALL_SIGNS:
            self.assert_tokens(one, sign(one))
            self.assert_tokens(f"a{one}{one} 1", word("a"), sign(one), sign(one), figures("1"))
        self.assert_tokens(ALL_SIGNS, *[sign(one) for one in ALL_SIGNS])
        self.assert_tokens(" ".join(ALL_SIGNS), *[sign(one) for one in ALL_SIGNS])

    def test_blanks_ahead_behind_and_between(self):
        told = (figures("10"), word("set"), word("a"), sign("="), figures("1"))
        for text in ("10 set a = 1", "  10 set a = 1", "10 set a = 1   ", "10  set   a =     1", "10set a=1", " 10set a=1 "):
            self.assert_tokens(text, *told)

    def test_one_right_behind_another(self):
        self.assert_tokens("a1b2", word("a"), figures("1"), word("b"), figures("2"))
        self.assert_tokens('a"b"c', word("a"), ("text", '"b"'), word("c"))
        self.assert_tokens('"a""b"1', ("text", '"a"'), ("text", '"b"'), figures("1"))
        self.assert_tokens("((a", sign("("), sign("("), word("a"))

    def test_lines_that_are_no_lines_of_a_program(self):
        self.assert_tokens("set set set", word("set"), word("set"), word("set"))
        self.assert_tokens("and or not", word("and"), word("or"), word("not"))
        self.assert_tokens("averylongwordindeed", word("averylongwordindeed"))
        self.assert_tokens("10 20", figures("10"), figures("20"))
        self.assert_tokens("007", figures("007"))
        self.assert_tokens(") a ] 1 , ;", sign(")"), word("a"), sign("]"), figures("1"), sign(","), sign(";"))
        self.assert_tokens('"' + LONG * 3 + '"', ("text", '"' + LONG * 3 + '"'))

    def test_each_letter_beside_figures(self):
        for letter in "abcdefghijklmnopqrstuvwxyz":
            self.assert_tokens(f"1{letter}1", figures("1"), word(letter), figures("1"))
            self.assert_tokens(f"{letter}10 note x", word(letter), figures("10"), word("note"), word("x"))
            self.assert_tokens(f"10{letter} note x", figures("10"), word(letter), word("note"), word("x"))
            self.assert_tokens(f"10 {letter}note x", figures("10"), word(letter + "note"), word("x"))
        for figure in "0123456789":
            self.assert_tokens(f"a{figure}a", word("a"), figures(figure), word("a"))

    def test_long_ones(self):
        self.assert_tokens("9" * 20000, figures("9" * 20000))
        self.assert_tokens("a" * 20000, word("a" * 20000))
        self.assert_tokens("(" * 20000, *[sign("(")] * 20000)

    def test_notes(self):
        for text, rest in (
            ("10 note x", "x"), ("10 note ", ""), ("10 note  ", " "), ("10 note   x  ", "  x  "), ("10 note " + SIGNS, SIGNS),
            ("10 note " + LONG * 5, LONG * 5), ("10 note note 10 note x", "note 10 note x"), ("10 note A!#$&_{}", "A!#$&_{}"),
            ("  10 note x", "x"), ("10   note x", "x"), ("  10   note  x", " x"), ("10note x", "x"), ("  10note ", ""),
        ):
            self.assert_tokens(text, figures("10"), word("note"), ("note", rest))
        self.assert_tokens("007note x", figures("007"), word("note"), ("note", "x"))
        self.assert_tokens("9" * 5000 + " note x", figures("9" * 5000), word("note"), ("note", "x"))

    def test_what_is_no_note(self):
        self.assert_tokens("10 note", figures("10"), word("note"))
        self.assert_tokens("10 note(x", figures("10"), word("note"), sign("("), word("x"))
        self.assert_tokens("10 note7 x", figures("10"), word("note"), figures("7"), word("x"))
        self.assert_tokens("10 notes x", figures("10"), word("notes"), word("x"))
        self.assert_tokens("note x", word("note"), word("x"))
        self.assert_tokens("  note x", word("note"), word("x"))
        self.assert_tokens("a 10 note x", word("a"), figures("10"), word("note"), word("x"))
        self.assert_tokens("10 go 20 note x", figures("10"), word("go"), figures("20"), word("note"), word("x"))
        self.assert_tokens("10 20 note x", figures("10"), figures("20"), word("note"), word("x"))
        self.assert_tokens('"10 note x"', ("text", '"10 note x"'))
        self.assert_refused(0, tokens, "note X")
        self.assert_refused(0, tokens, "10 notes X")

    def test_notes_with_what_may_not_stand_in_them(self):
        for rest in ('"', 'a"', '"a', '"a"', "\n", "a\n", "a\nb", "\r", "a\t"):
            for ahead in ("10 note ", "  10note "):
                self.assert_refused(0, tokens, ahead + rest)

    def test_a_text_without_its_end(self):
        for text in ('"', '"a', 'a"', '"a" "', '10 say "a', '10 data "a", "b', '"""'):
            self.assert_refused(0, tokens, text)

    def test_a_sign_that_cannot_stand_so(self):
        allowed = "abcdefghijklmnopqrstuvwxyz0123456789 " + ALL_SIGNS
        for one in SIGNS:
            if one not in allowed:
                for text in (one, f"a{one}", f"{one}a", f"10 say {one}", f"10 say a {one}"):
                    self.assert_refused(0, tokens, text)
        for text in ("\n", "10 end\n", "10 end\n20 end", "10 end\r", "\t", '"a\nb"', '"a\n"', '"\n"', '"\na"', '"\t"', "\n10 end", "10\nnote x", "A"):
            self.assert_refused(0, tokens, text)

    def test_what_is_no_text(self):
        for thing in (None, 10, (), ("10 end",), ["10 end"], *[thing for thing in ODD if not isinstance(thing, str)]):
            self.assert_refused(None, tokens, thing)

    def test_what_was_told_is_the_asker_s(self):
        tokens("10 end").append(word("x"))
        self.assert_tokens("10 end", figures("10"), word("end"))


class PutTogether(Asking):
    def assert_together(self, text):
        self.assert_told(text, put_together, tokens(text))

    def test_of_none(self):
        self.assert_told("", put_together, [])

    def test_each_word_s_line(self):
        for _, written in STATEMENTS:
            for number in (1, 20, 9999):
                self.assert_together(f"{number} {written}")

    def test_each_expression(self):
        for expression, written in EXPRESSIONS:
            self.assert_together(written)
            for around in (f"10 set a = {written}", f"10 say {written}", f"10 say {written}; {written}", f"10 go by {written}",
                           f"10 when {written} go 5", f"10 pick {written} call 1, 2", f"10 set r[{written}] = {written}",
                           f"10 loop i = {written} to {written} by {written}", f"10 row r[{written}]",
                           f"10 fit f(x) = {written}", f"({written} and {written})", f"({written} - {written})",
                           f"part({written}, {written}, {written})", f"not({written})", f"r[{written}]", f"f({written})"):
                self.assert_together(around)

    def test_fits_and_rows_by_the_names_of_words(self):
        for name in ("say", "data", "set", "note", "when", "pick", "loop", "fit", "row", "stop", "end", "ask"):
            for text in (f"10 say {name}(a)", f"10 say {name}", f"10 say {name}[a]", f"10 set {name} = ({name} - 1)",
                         f"10 say ({name}(1) - {name}[1]); {name}", f"10 when {name}((a - b)) go 10", f"{name}((a - b))",
                         f"10 fit {name}({name}) = {name}(({name} - 1))", f"10 go by {name}(a)", f"({name} - {name})",
                         f"10 set {name}[{name}] = {name}", f"10 row {name}[{name}]", f"10 data -1, \"{name} - 1\""):
                self.assert_together(text)

    def test_of_drawn_lines(self):
        for seed in range(200):
            for number, statement in Chance(seed).program():
                self.assert_together(show_line((number, statement)))
            self.assert_together(show_expression(Chance(seed).expression(deep=6)))


if __name__ == "__main__":
    unittest.main()
