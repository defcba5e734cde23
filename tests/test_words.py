"""Points 4 to 6: names, worths, expressions, statements, lines, programs."""

import copy
import unittest

from numberedlines.words import is_expression, is_line, is_name, is_program, is_statement, is_worth
from things import HUNDRED_FIGURES, ODD, with_part

BARRED = ("and", "or", "not", "rest", "size", "part", "why", "where", "to", "by", "go", "call")
SIGNS = ("+", "-", "*", "/", "rest", "<", "=", ">", "and", "or")

ONE = ("number", 1)
BOX = ("box", "a")

# Every form of expression, right.
EXPRESSIONS = (
    ("number", 1),
    ("text", "Hi, you!"),
    ("box", "a"),
    ("cell", "a", ONE),
    ("fit", "a", ONE),
    ("not", ONE),
    ("size", BOX),
    ("part", BOX, ONE, ONE),
    ("why",),
    ("where",),
) + tuple((sign, ONE, BOX) for sign in SIGNS)

# Every form of statement, right.
STATEMENTS = (
    ("set", "a", ONE),
    ("setcell", "a", ONE, BOX),
    ("say", (ONE, BOX)),
    ("ask", "a"),
    ("go", 10),
    ("goby", BOX),
    ("call", 10),
    ("back",),
    ("when", BOX, 10),
    ("pick", BOX, "go", (10, 20)),
    ("pick", BOX, "call", (10, 20)),
    ("loop", "a", ONE, BOX, ONE),
    ("again", "a"),
    ("data", (1, "two")),
    ("read", "a"),
    ("anew", 10),
    ("row", "a", ONE),
    ("fit", "a", "b", ONE),
    ("trap", 10),
    ("retry",),
    ("pass",),
    ("stop",),
    ("end",),
    ("note", "Hi, you!"),
)

NO_NAMES = ("", "ninechars", "A", "aB", "a1", "a b", "a_b", " a", "a\n", '"', 1, None, ("a",), ["a"], {"a": 1}) + BARRED
NO_LINE_NUMBERS = (0, -1, 10000, HUNDRED_FIGURES, True, False, "1", "", (1,), [1], {1: 1})
NO_TEXTS = ('"', 'a"b', "a\nb", "\t", "\x7f", "a" * 101, 0, 1, None, (), ("a",), ["a"], {"a": "a"})
NO_NUMBERS = (10 ** 12 + 1, -10 ** 12 - 1, HUNDRED_FIGURES, -HUNDRED_FIGURES, True, False)
NO_EXPRESSIONS = (
    0, 1, "a", "why", None, True, (), ("number",), ("number", True), ["number", 1], ["why"],
    {}, {"number": 1}, ("no", ONE, ONE), (ONE,), ((),), ([],), ({},),
)


class Asked(unittest.TestCase):
    def assert_all(self, test, things):
        for thing in things:
            with self.subTest(thing=repr(thing)[:80]):
                self.assertIs(test(thing), True)

    def assert_none(self, test, things):
        for thing in things:
            with self.subTest(thing=repr(thing)[:80]):
                self.assertIs(test(thing), False)

    def assert_each_part_matters(self, test, things):
        """No part may be missing, added, or odd, and no list may stand for the tuple."""
        for thing in things:
            self.assert_none(test, (
                thing[:-1], thing + (1,), thing + ("a",), thing + (ONE,), thing + (None,),
                list(thing), (thing,), thing[1:], (list(thing),),
            ))
            self.assert_none(test, [("no",) + thing[1:], ("",) + thing[1:], (None,) + thing[1:]])
            self.assert_none(test, [(["set"],) + thing[1:], ({},) + thing[1:], ((),) + thing[1:]])
            for at in range(1, len(thing)):
                self.assert_none(test, [with_part(thing, at, part) for part in (True, False, (), [], {})
                                        if thing[0] != "say" or part != ()])


class Names(Asked):
    def test_of_one_to_eight_small_letters(self):
        self.assert_all(is_name, ("a", "z", "ab", "eightlet", "zzzzzzzz", "set", "say", "goby", "number", "fit"))

    def test_barred_words_only_whole(self):
        self.assert_all(is_name, tuple(word + "x" for word in BARRED) + tuple("x" + word for word in BARRED))
        self.assert_all(is_name, ("an", "an" + "y", "wher", "got", "b", "t"))

    def test_others_are_none(self):
        self.assert_none(is_name, NO_NAMES)
        self.assert_none(is_name, ("`", "{", "a`", "{a", "-", "a-b", "a.", "\u00e4", "nineletts"))

    def test_of_anything(self):
        self.assert_none(is_name, ODD)


class Worths(Asked):
    def test_numbers_up_to_the_bound(self):
        self.assert_all(is_worth, (0, 1, -1, 10 ** 12, -10 ** 12))
        self.assert_none(is_worth, NO_NUMBERS)

    def test_texts(self):
        self.assert_all(is_worth, ("", " ", "~", "!", "#", "a" * 100, "A b, c; 'd' \\ `", "and"))
        signs = "".join(chr(code) for code in range(32, 127) if chr(code) != '"')
        self.assert_all(is_worth, (signs[:50], signs[50:]))

    def test_no_texts(self):
        self.assert_none(is_worth, ('"', 'a"', '"a', "\n", "a\n", "\na", "\t", "\x1f", "\x7f", "a" * 101, "\n" * 100))

    def test_of_other_kinds(self):
        self.assert_none(is_worth, (True, False, None, (), (1,), ("a",), [], [1], {}, {1: 1}))

    def test_of_anything(self):
        self.assert_none(is_worth, [thing for thing in ODD if thing != "Capital"])
        self.assert_all(is_worth, ("Capital",))


class Expressions(Asked):
    def test_each_form(self):
        self.assert_all(is_expression, EXPRESSIONS)

    def test_each_part_matters(self):
        self.assert_each_part_matters(is_expression, EXPRESSIONS)

    def test_each_form_within_each_other(self):
        for inner in EXPRESSIONS:
            self.assert_all(is_expression, (
                ("cell", "a", inner), ("fit", "a", inner), ("not", inner), ("size", inner),
                ("part", inner, ONE, ONE), ("part", ONE, inner, ONE), ("part", ONE, ONE, inner),
            ))
            for sign in SIGNS:
                self.assert_all(is_expression, ((sign, inner, ONE), (sign, ONE, inner)))

    def test_no_expression_within_any(self):
        for part in NO_EXPRESSIONS:
            self.assert_none(is_expression, (
                ("cell", "a", part), ("fit", "a", part), ("not", part), ("size", part),
                ("part", part, ONE, ONE), ("part", ONE, part, ONE), ("part", ONE, ONE, part),
            ))
            for sign in SIGNS:
                self.assert_none(is_expression, ((sign, part, ONE), (sign, ONE, part)))

    def test_numbers_from_0_to_the_bound(self):
        self.assert_all(is_expression, (("number", 0), ("number", 10 ** 12)))
        self.assert_none(is_expression, [("number", part) for part in NO_NUMBERS + (-1, -10 ** 12, "1", "", None)])

    def test_texts_are_worths(self):
        self.assert_all(is_expression, (("text", ""), ("text", "~" * 100), ("text", "and")))
        self.assert_none(is_expression, [("text", part) for part in NO_TEXTS])

    def test_names(self):
        for part in NO_NAMES:
            self.assert_none(is_expression, (("box", part), ("cell", part, ONE), ("fit", part, ONE)))
        self.assert_all(is_expression, (("box", "eightlet"), ("cell", "eightlet", ONE), ("fit", "eightlet", ONE)))

    def test_words_are_just_those(self):
        self.assert_none(is_expression, [(word, ONE, ONE) for word in (
            "", "AND", "set", "//", "<=", "==", "+ ", "xor", "%", "number", "not", "part", "why", "fit")])
        self.assert_none(is_expression, STATEMENTS)

    def test_eight_deep_and_nine(self):
        for wrap in (
            lambda e: ("not", e), lambda e: ("size", e), lambda e: ("cell", "a", e), lambda e: ("fit", "a", e),
            lambda e: ("+", e, ONE), lambda e: ("+", ONE, e), lambda e: ("part", e, ONE, ONE),
            lambda e: ("part", ONE, e, ONE), lambda e: ("part", ONE, ONE, e),
        ):
            for leaf in (ONE, ("why",), BOX, ("text", "")):
                thing = leaf
                for _ in range(7):
                    thing = wrap(thing)
                self.assert_all(is_expression, (thing,))
                self.assert_none(is_expression, (wrap(thing),))

    def test_thirty_deep(self):
        thing = ONE
        for _ in range(29):
            thing = ("not", thing)
        self.assert_none(is_expression, (thing,))

    def test_forty_in_all_and_forty_one(self):
        nine = ("part", ("+", ONE, BOX), ("+", ONE, BOX), ("not", ONE))
        self.assertEqual(count(nine), 9)
        four_nines = ("part", nine, ("part", nine, nine, nine), ("why",))
        self.assertEqual(count(four_nines), 39)
        self.assert_all(is_expression, (four_nines, ("not", four_nines)))
        self.assert_none(is_expression, (("not", ("not", four_nines)), ("+", four_nines, ONE)))

    def test_many_more(self):
        thing = ONE
        for _ in range(7):
            thing = ("part", thing, thing, thing)
        self.assert_none(is_expression, (thing,))

    def test_of_anything(self):
        self.assert_none(is_expression, ODD)
        self.assert_none(is_expression, NO_EXPRESSIONS)


def count(expression):
    return 1 + sum(count(part) for part in expression[1:] if isinstance(part, tuple))


class Statements(Asked):
    def test_each_form(self):
        self.assert_all(is_statement, STATEMENTS)

    def test_each_part_matters(self):
        self.assert_each_part_matters(is_statement, STATEMENTS)

    def test_words_are_just_those(self):
        self.assert_none(is_statement, (("",), ("SET", "a", ONE), ("go by", ONE), ("let", "a", ONE), ("print", ())))
        self.assert_none(is_statement, [thing for thing in EXPRESSIONS])

    def test_names(self):
        for part in NO_NAMES:
            self.assert_none(is_statement, (
                ("set", part, ONE), ("setcell", part, ONE, ONE), ("ask", part), ("loop", part, ONE, ONE, ONE),
                ("again", part), ("read", part), ("row", part, ONE), ("fit", part, "a", ONE), ("fit", "a", part, ONE),
            ))

    def test_expressions(self):
        for part in NO_EXPRESSIONS:
            self.assert_none(is_statement, (
                ("set", "a", part), ("setcell", "a", part, ONE), ("setcell", "a", ONE, part), ("goby", part),
                ("say", (part,)), ("say", (ONE, part)), ("when", part, 10), ("pick", part, "go", (10,)),
                ("loop", "a", part, ONE, ONE), ("loop", "a", ONE, part, ONE), ("loop", "a", ONE, ONE, part),
                ("row", "a", part), ("fit", "a", "b", part),
            ))

    def test_expressions_bound_one_by_one(self):
        eight = ONE
        for _ in range(7):
            eight = ("not", eight)
        self.assert_all(is_statement, (
            ("set", "a", eight), ("setcell", "a", eight, eight), ("say", (eight,) * 5), ("goby", eight),
            ("when", eight, 1), ("pick", eight, "go", (1,)), ("loop", "a", eight, eight, eight),
            ("row", "a", eight), ("fit", "a", "b", eight),
        ))
        self.assert_none(is_statement, (("set", "a", ("not", eight)), ("say", (ONE, ("not", eight)))))
        forty = ("+", ("part", ONE, ONE, ONE), ONE)
        while count(forty) < 40:
            forty = ("+", forty, ("part", ONE, ONE, ONE)) if count(forty) < 35 else ("not", forty)
        self.assertEqual(count(forty), 40)
        self.assert_none(is_statement, (("set", "a", ("not", forty)),))

    def test_line_numbers_at_their_bounds(self):
        for number in (1, 2, 9998, 9999):
            self.assert_all(is_statement, (
                ("go", number), ("call", number), ("when", ONE, number), ("pick", ONE, "go", (number,)),
                ("anew", number), ("trap", number),
            ))
        for part in NO_LINE_NUMBERS + (None,):
            self.assert_none(is_statement, (
                ("go", part), ("call", part), ("when", ONE, part), ("pick", ONE, "go", (part,)),
                ("pick", ONE, "go", (10, part)), ("pick", ONE, "call", (part, 10)),
            ))

    def test_anew_of_none(self):
        self.assert_all(is_statement, (("anew", None),))
        self.assert_none(is_statement, [("anew", part) for part in NO_LINE_NUMBERS] + [("anew",)])

    def test_trap_of_0(self):
        self.assert_all(is_statement, (("trap", 0),))
        self.assert_none(is_statement, [("trap", part) for part in (-1, 10000, True, False, None, "0", (), [], {})])

    def test_say_of_none_to_five(self):
        self.assert_all(is_statement, [("say", (ONE,) * many) for many in range(6)])
        self.assert_none(is_statement, (
            ("say", (ONE,) * 6), ("say", (BOX,) * 7), ("say", [ONE]), ("say", []), ("say", ONE), ("say", {}),
            ("say", None), ("say", "why"), ("say",), ("say", ONE, ONE),
        ))

    def test_pick_of_one_to_six(self):
        self.assert_all(is_statement, [("pick", ONE, "go", (10,) * many) for many in range(1, 7)])
        self.assert_all(is_statement, [("pick", ONE, "call", (9, 8, 7, 6, 5, 4))])
        self.assert_none(is_statement, (
            ("pick", ONE, "go", ()), ("pick", ONE, "go", (10,) * 7), ("pick", ONE, "call", ()),
            ("pick", ONE, "call", (10,) * 7), ("pick", ONE, "go", [10]), ("pick", ONE, "go", 10),
            ("pick", ONE, "go", None),
        ))

    def test_pick_goes_or_calls(self):
        self.assert_none(is_statement, [("pick", ONE, word, (10,)) for word in (
            "", "Go", "goto", "back", "gocall", None, 1, True, ("go",), ["go"], {"go": 1})])

    def test_data_of_one_to_six_worths(self):
        self.assert_all(is_statement, [("data", (-5,) * many) for many in range(1, 7)])
        self.assert_all(is_statement, (("data", (10 ** 12, -10 ** 12, "", "a" * 100)),))
        self.assert_none(is_statement, (
            ("data", ()), ("data", (1,) * 7), ("data", [1]), ("data", 1), ("data", "one"), ("data", {1: 1}),
            ("data", None),
        ))
        for part in NO_NUMBERS + ('"', "\n", "a" * 101, None, (), (1,), [1], {}):
            self.assert_none(is_statement, (("data", (part,)), ("data", (1, part)), ("data", (part, "a"))))

    def test_notes(self):
        self.assert_all(is_statement, (("note", ""), ("note", " "), ("note", "~" * 100)))
        self.assert_none(is_statement, [("note", part) for part in NO_TEXTS])

    def test_of_anything(self):
        self.assert_none(is_statement, ODD)
        self.assert_none(is_statement, (None, 0, 1, "stop", ["stop"], ("stop", ()), (("stop",),), ()))


class Lines(Asked):
    def test_each_statement(self):
        self.assert_all(is_line, [(10, statement) for statement in STATEMENTS])

    def test_numbers(self):
        self.assert_all(is_line, ((1, ("stop",)), (9999, ("stop",))))
        self.assert_none(is_line, [(part, ("stop",)) for part in NO_LINE_NUMBERS + (None,)])

    def test_wrong_ones(self):
        self.assert_none(is_line, (
            (10,), (10, ("stop",), ("stop",)), (10, ("stop",), None), [10, ("stop",)], (10, ["stop"]), (10, "stop"),
            (("stop",), 10), (10, ()), (10, None), (10, ("why",)), (10, ("stop", 1)), (10, ("go", True)), (), None,
            {10: ("stop",)}, 10, "10 stop", ("stop",),
        ))

    def test_of_anything(self):
        self.assert_none(is_line, ODD)


class Programs(Asked):
    def test_of_none_to_a_hundred_lines(self):
        self.assert_all(is_program, [numbered(range(1, many + 1)) for many in (0, 1, 2, 99, 100)])
        self.assert_none(is_program, [numbered(range(1, many + 1)) for many in (101, 102, 1000)])

    def test_of_all_statements(self):
        self.assert_all(is_program, (tuple((10 * at + 10, one) for at, one in enumerate(STATEMENTS)),))

    def test_numbers_rise(self):
        self.assert_all(is_program, (numbered((1, 9999)), numbered((5, 6, 70))))
        self.assert_none(is_program, [numbered(numbers) for numbers in (
            (10, 10), (20, 10), (10, 20, 20), (10, 30, 20), (20, 10, 30), (10, 20, 10), (9999, 1), (1, 1),
        )])

    def test_each_line_matters(self):
        for wrong in ((0, ("stop",)), (10000, ("stop",)), (True, ("stop",)), [1, ("stop",)], (1, ["stop"]),
                      (1, ("no",)), None, (), "1 stop", {}):
            self.assert_none(is_program, ((wrong,), (wrong, (20, ("stop",)))))
        self.assert_none(is_program, (((10, ("stop",)), (20, ("no",))), ((10, ("stop",)), (20, ("go", 0)))))

    def test_of_other_kinds(self):
        self.assert_none(is_program, ([], [(10, ("stop",))], {}, {10: ("stop",)}, None, 0, "", "10 stop", True))
        self.assert_none(is_program, ((10, ("stop",)), ((),), ([],)))

    def test_of_anything(self):
        self.assert_none(is_program, ODD)


def numbered(numbers):
    return tuple((number, ("stop",)) for number in numbers)


class AsTwo(Asked):
    """Point 2: nothing that is handed in is changed, and the same is told again."""

    def test_nothing_is_changed_and_the_same_is_told_again(self):
        for thing in ODD + STATEMENTS + (numbered((10, 20)), [("number", 1)], {"a": [1]}):
            before = copy.deepcopy(thing)
            for test in (is_name, is_worth, is_expression, is_statement, is_line, is_program):
                self.assertIs(test(thing), test(thing))
            self.assertEqual(repr(thing), repr(before))


if __name__ == "__main__":
    unittest.main()
