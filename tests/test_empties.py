"""Point 21: boxes that may be empty when a line asks them, and the inputs by which they are."""

import unittest

from numberedlines.empties import found_empty, may_be_empty
from numberedlines.flow import may_be_next, never
from numberedlines.walk import states_on
from numberedlines.words import all_within, expressions_of
from asking import Asking, lists_of
from programs import Chance
from stepping import NOTE, box, number

A, B, C, X, Y = box("a"), box("b"), box("c"), box("x"), box("y")
ONE = number(1)
END = ("end",)
SAY = ("say", (A,))
SETTERS = (("set", "a", ONE), ("ask", "a"), ("loop", "a", ONE, ONE, ONE), ("read", "a"))
# Statements that have something to do with a, but don't set its box.
OTHERS = (("again", "a"), ("row", "a", ONE), ("setcell", "a", ONE, ONE), ("fit", "a", "a", ONE), ("set", "b", ONE), NOTE,
          ("ask", "b"), ("read", "b"), ("data", (1,)), ("fit", "f", "a", ONE))


def fit(name, expression):
    return ("fit", name, expression)


def add(one, other):
    return ("+", one, other)


class MayBeEmpty(Asking):
    def assert_empty(self, told, *program):
        """Of statements, numbered by tens from 10 on."""
        program = tuple((10 * (at + 1), statement) for at, statement in enumerate(program))
        self.assert_told(told, may_be_empty, program)

    def test_no_lines_and_no_boxes(self):
        self.assert_empty([])
        self.assert_empty([], NOTE)
        self.assert_empty([], ("say", (ONE, ("why",), ("where",))), ("row", "a", ONE), ("fit", "f", "x", A), END)

    def test_a_box_that_nothing_sets(self):
        self.assert_empty([(10, "a")], SAY)
        self.assert_empty([(20, "a")], NOTE, SAY, END)

    def test_each_statement_that_sets_a_box(self):
        for setter in SETTERS:
            self.assert_empty([], setter, SAY)
            self.assert_empty([], setter, NOTE, SAY, SAY)
            self.assert_empty([(10, "a")], SAY, setter, SAY)
            self.assert_empty([(20, "b")], setter, ("say", (A, B)))

    def test_statements_that_set_no_box_of_the_name(self):
        for other in OTHERS:
            told = [(10, "a"), (20, "a")] if other[0] == "again" else [(20, "a")]
            self.assert_empty(told, other, SAY)

    def test_set_on_all_ways_and_on_some(self):
        for setter in SETTERS:
            for other in SETTERS:
                self.assert_empty([], ("when", ONE, 40), setter, ("go", 50), other, SAY)
            self.assert_empty([(40, "a")], ("when", ONE, 40), setter, NOTE, SAY)
            self.assert_empty([(50, "a")], ("when", ONE, 40), setter, ("go", 50), NOTE, SAY)
            self.assert_empty([(30, "a")], ("pick", ONE, "go", (20, 30)), setter, SAY)

    def test_the_ways_of_jumps_calls_and_loops(self):
        setter = SETTERS[0]
        # By point 19 the line behind a call is next to it, so what is called sets nothing for sure.
        self.assert_empty([(20, "a")], ("call", 40), SAY, END, setter, ("back",))
        self.assert_empty([], setter, ("call", 40), END, SAY, ("back",))
        self.assert_empty([(20, "a")], ("goby", ONE), SAY, setter)
        self.assert_empty([], ("go", 30), SAY, setter, ("go", 20))
        # The loop may not be begun.
        self.assert_empty([(40, "a")], ("loop", "i", ONE, ONE, ONE), setter, ("again", "i"), SAY)
        self.assert_empty([], setter, ("loop", "i", ONE, ONE, ONE), SAY, ("again", "i"))

    def test_the_line_s_own_setting_is_behind_its_asking(self):
        self.assert_empty([(10, "a")], ("set", "a", add(A, ONE)))
        self.assert_empty([(10, "a")], ("set", "a", A), SAY)
        self.assert_empty([(10, "a")], ("loop", "a", A, ONE, ONE), SAY)
        self.assert_empty([(10, "a")], ("set", "a", A), ("go", 10))
        self.assert_empty([], SETTERS[0], ("set", "a", A), ("go", 20))
        self.assert_empty([(20, "a")], NOTE, ("set", "a", A), ("go", 20))

    def test_a_setter_left_to_a_trap_s_line_by_its_fault(self):
        for setter in SETTERS:
            self.assert_empty([(40, "a")], ("trap", 40), setter, END, SAY)
            self.assert_empty([], NOTE, setter, END, SAY)
            # Where the trap's line is the one behind, both ways lead to it.
            self.assert_empty([(30, "a")], ("trap", 30), setter, SAY)
            # The trap stands behind, but its way leads from all lines.
            self.assert_empty([(30, "a"), (50, "a")], setter, ("go", 40), SAY, ("trap", 30), SAY)
            # A trap's line that there isn't, and none.
            self.assert_empty([], ("trap", 25), setter, SAY)
            self.assert_empty([], ("trap", 0), setter, SAY)
            self.assert_empty([(40, "a")], setter, ("trap", 40), END, SAY)
            # Notes and data, where nothing comes to a fault, don't lead there.
            self.assert_empty([], setter, NOTE, ("data", (1,)), ("stop",), END, SAY, ("trap", 70))

    def test_retry_and_pass(self):
        setter = SETTERS[0]
        # retry may lead to each line, the setter's own fault having led to the trap's line.
        self.assert_empty([(30, "a")], ("trap", 50), setter, SAY, END, ("retry",))
        self.assert_empty([(30, "a")], ("trap", 50), setter, SAY, END, ("pass",))
        self.assert_empty([], setter, ("stop",), SAY, END)

    def test_the_box_of_again(self):
        self.assert_empty([(10, "i")], ("again", "i"))
        self.assert_empty([], ("loop", "i", ONE, ONE, ONE), ("again", "i"))
        self.assert_empty([], ("set", "i", ONE), ("again", "i"), SETTERS[0])
        self.assert_empty([(20, "i"), (30, "i")], NOTE, ("again", "i"), ("say", (box("i"),)))

    def test_boxes_wherever_they_stand(self):
        for statement in (
            SAY, ("set", "b", A), ("setcell", "r", A, ONE), ("setcell", "r", ONE, A), ("say", (ONE, ONE, A)), ("goby", A),
            ("when", A, 10), ("pick", A, "go", (10,)), ("pick", A, "call", (10, 20)), ("loop", "i", A, ONE, ONE),
            ("loop", "i", ONE, A, ONE), ("loop", "i", ONE, ONE, A), ("row", "r", A), ("set", "b", ("cell", "r", A)),
            ("set", "b", ("part", ONE, A, ONE)), ("set", "b", ("part", A, ONE, A)), ("set", "b", ("part", ONE, ONE, A)),
            ("set", "b", fit("f", A)), ("set", "b", ("not", ("size", A))), ("set", "b", ("and", ONE, ("or", ONE, A))),
            ("set", "b", ("cell", "r", ("cell", "r", fit("f", add(ONE, A))))),
        ):
            self.assert_empty([(10, "a")], statement)
        self.assert_empty([], ("set", "b", ("cell", "a", ONE)), ("set", "b", fit("a", ONE)))

    def test_several_rising(self):
        self.assert_empty([(10, "a"), (10, "b"), (20, "b"), (20, "c"), (30, "a")], ("say", (B, A, B)), ("say", (C, B)), SAY)

    def test_of_a_fit_s_line_none(self):
        self.assert_empty([], ("fit", "f", "x", add(A, X)))
        self.assert_empty([], ("fit", "f", "x", fit("g", A)), ("fit", "g", "y", B))

    def test_of_a_line_that_calls_a_fit(self):
        self.assert_empty([(20, "a")], ("fit", "f", "x", add(A, X)), ("say", (fit("f", ONE),)))
        self.assert_empty([(20, "a"), (20, "b")], ("fit", "f", "x", add(A, X)), ("say", (fit("f", B),)))
        self.assert_empty([], ("fit", "f", "x", add(A, X)), SETTERS[0], ("say", (fit("f", ONE),)))
        self.assert_empty([(10, "x")], ("say", (X,)), ("fit", "f", "x", X), ("say", (fit("f", ONE),)))
        # What is handed to a fit is asked outside of it.
        self.assert_empty([(20, "x")], ("fit", "f", "x", X), ("say", (fit("f", X),)))

    def test_all_fit_lines_of_the_name_wherever_they_stand(self):
        self.assert_empty([(10, "a"), (10, "b")], ("say", (fit("f", ONE),)), END, ("fit", "f", "x", A), ("fit", "f", "x", B))
        # The own box of one of them stands in the other one.
        self.assert_empty([(30, "x"), (30, "y")], ("fit", "f", "x", add(X, Y)), ("fit", "f", "y", add(X, Y)),
                          ("say", (fit("f", ONE),)))
        self.assert_empty([], ("fit", "g", "x", A), ("say", (fit("f", ONE),)))

    def test_fits_that_call_one_another_and_themselves(self):
        self.assert_empty([(30, "b")], ("fit", "f", "x", fit("g", X)), ("fit", "g", "y", add(B, Y)), ("say", (fit("f", ONE),)))
        self.assert_empty([(20, "a")], ("fit", "f", "x", add(A, fit("f", X))), ("say", (fit("f", ONE),)))
        self.assert_empty([(30, "a"), (30, "b")], ("fit", "f", "x", add(A, fit("g", X))),
                          ("fit", "g", "y", add(B, fit("f", Y))), ("say", (fit("f", ONE),)))
        self.assert_empty([(40, "c")], ("fit", "f", "x", fit("g", X)), ("fit", "g", "x", fit("h", X)), ("fit", "h", "x", C),
                          ("say", (fit("f", ONE),)))
        # Called by what is handed to a fit.
        self.assert_empty([(30, "a")], ("fit", "f", "x", X), ("fit", "g", "x", A), ("say", (fit("f", fit("g", ONE)),)))

    def test_another_fit_s_box(self):
        # x is f's own, but asked in g's expression.
        self.assert_empty([(30, "x")], ("fit", "f", "x", fit("g", X)), ("fit", "g", "y", add(X, Y)), ("say", (fit("f", ONE),)))
        self.assert_empty([(30, "x")], ("fit", "f", "x", fit("g", X)), ("fit", "g", "y", add(X, Y)), ("say", (fit("g", ONE),)))

    def test_again_and_fits_in_one_program(self):
        self.assert_empty([(20, "a"), (20, "x")], ("fit", "f", "x", A), ("when", fit("f", X), 10))

    def test_lines_never_come_to(self):
        self.assert_empty([], END, SAY)
        self.assert_empty([(30, "a")], ("go", 30), SAY, SAY)
        # A setter that is never come to sets nothing, a fit line that is never come to counts.
        self.assert_empty([(30, "a")], ("go", 30), SETTERS[0], SAY)
        self.assert_empty([(10, "a")], ("when", fit("f", ONE), 10), END, ("fit", "f", "x", A))

    def test_by_other_means(self):
        """Of drawn programs the same as by following lines with what is set ahead of them."""
        told = 0
        for seed in range(300):
            program = Chance(seed).program()
            answer = may_be_empty(program)
            told += len(answer)
            self.assertEqual(answer, may_be_empty_otherwise(program), seed)
        self.assertGreater(told, 300)

    def test_no_walk_has_the_fault_for_another_box_or_line(self):
        met = 0
        for seed in range(3000):
            chance = Chance(seed)
            program, inputs = chance.program(), chance.inputs()
            told = may_be_empty(program)
            states = states_on(program, inputs, most=60)
            for one, other in zip(states, states[1:]):
                if other[9] == ("empty", one[1]) and one[9] != other[9] and not asks_faults(program, one[1]):
                    met += 1
                    names = [name for at, name in told if at == one[1]]
                    self.assertTrue(set(names) - set(dict(one[2])), (seed, one, other))
        self.assertGreater(met, 100)

    def test_of_a_hundred_lines_each_to_each(self):
        names = ["".join(pair) for pair in zip("abcdefghij" * 10, "klmnopqrst" * 10)]
        lines = [("goby", add(box(names[at]), box(chr(97 + at // 4)))) for at in range(100)]
        program = tuple((at + 1, line) for at, line in enumerate(lines))
        self.assertEqual(len(may_be_empty(program)), 200)


def fit_boxes(program, name, seen):
    found = set()
    for _, statement in program:
        if statement[:2] == ("fit", name):
            for inner in all_within(statement[3]):
                if inner[0] == "box" and inner[1] != statement[2]:
                    found.add(inner[1])
                if inner[0] == "fit" and inner[1] not in seen:
                    seen.add(inner[1])
                    found |= fit_boxes(program, inner[1], seen)
    return found


def asked_otherwise(program, statement):
    if statement[0] == "fit":
        return set()
    found = {statement[1]} if statement[0] == "again" else set()
    for expression in expressions_of(statement):
        for inner in all_within(expression):
            if inner[0] == "box":
                found.add(inner[1])
            if inner[0] == "fit":
                found |= fit_boxes(program, inner[1], {inner[1]})
    return found


def may_be_empty_otherwise(program):
    """By the sets of boxes that are set for sure ahead of each line."""
    names = {name for _, statement in program for name in asked_otherwise(program, statement)}
    lines = dict(program)
    sure = {program[0][0]: set()}
    traps = {statement[1] for statement in lines.values() if statement[0] == "trap"} & set(lines)
    changing = True
    while changing:
        changing = False
        for at in list(sure):
            statement = lines[at]
            sets = statement[0] in ("set", "ask", "loop", "read")
            behind = sure[at] | ({statement[1]} if sets else set())
            idle = statement[0] in ("note", "data", "end", "stop")
            ways = [(way, behind) for way in may_be_next(program, at) if way != 0]
            ways += [] if idle else [(way, sure[at]) for way in traps]
            for way, there in ways:
                new = sure.get(way, there) & there
                changing = changing or way not in sure or new != sure[way]
                sure[way] = new
    assert set(lines) - set(sure) == set(never(program))
    return sorted((at, name) for at in sure for name in asked_otherwise(program, lines[at]) & names - sure[at])


def asks_faults(program, at):
    """Whether why or where is asked at the line, perhaps by a fit."""
    fits = [statement[3] for _, statement in program if statement[0] == "fit"]
    return any(inner[0] in ("why", "where") for expression in expressions_of(dict(program)[at]) + fits
               for inner in all_within(expression))


# a is empty at 40 where the first input isn't 0, b where it is 0 and the second one isn't.
ASKS = (
    (10, ("ask", "n")),
    (20, ("when", box("n"), 40)),
    (30, ("set", "a", ONE)),
    (40, ("say", (A,))),
    (50, ("ask", "m")),
    (60, ("when", box("m"), 80)),
    (70, ("set", "b", ONE)),
    (80, ("say", (A, B))),
)


class FoundEmpty(Asking):
    def assert_found(self, told, program, at, name, **how):
        self.assert_told(told, found_empty, program, at, name, **how)

    def test_with_none_one_and_two_inputs(self):
        self.assert_found((), ((10, SAY),), 10, "a")
        self.assert_found((1,), ASKS, 40, "a")
        self.assert_found((0, 1), ASKS, 80, "b")
        self.assertEqual(may_be_empty(ASKS), [(40, "a"), (80, "a"), (80, "b")])

    def test_none(self):
        self.assert_found(None, ASKS, 80, "a")
        self.assert_found(None, ((10, ("set", "a", ONE)), (20, SAY)), 20, "a")
        self.assert_found(None, (), 10, "a")
        self.assert_found(None, ((10, END), (20, SAY)), 20, "a")

    def test_by_nought_and_one_and_two_inputs_where_none_are_told(self):
        for first in (0, 1):
            for second in (0, 1):
                program = ((10, ("ask", "n")), (20, ("ask", "m")), (30, ("when", ("=", box("n"), number(first)), 50)), (40, END),
                           (50, ("when", ("=", box("m"), number(second)), 70)), (60, END), (70, SAY))
                self.assert_found((first, second), program, 70, "a")
                self.assert_found(None, ((5, ("ask", "n")), *program), 70, "a")

    def test_worths_in_their_order(self):
        for worths, told in (((1, 0), (1,)), ((0, 1), (1,)), ((5, 1, 0), (5,)), ((0, -1), (-1,)), ((0,), None), ((), None),
                             (("x", 0), None), (("x", 2), (2,))):
            self.assert_found(told, ASKS, 40, "a", worths=worths)
        for worths, told in (((1, 0), (0, 1)), ((2, 0, 1), (0, 2)), (("x", 0, 3), (0, 3)), ((1,), None)):
            self.assert_found(told, ASKS, 80, "b", worths=worths)

    def test_how_many_inputs_at_their_ends(self):
        for most_inputs in (0, 1, 2, 3):
            self.assert_found((1,) if most_inputs > 0 else None, ASKS, 40, "a", most_inputs=most_inputs)
            self.assert_found((0, 1) if most_inputs > 1 else None, ASKS, 80, "b", most_inputs=most_inputs)
            self.assert_found((), ((10, SAY),), 10, "a", most_inputs=most_inputs)
        self.assert_found((), ((10, SAY),), 10, "a", worths=(), most_inputs=10 ** 99)

    def test_how_many_steps_at_their_ends(self):
        for most in (0, 1, 2, 3, 4, 200):
            self.assert_found(() if most > 0 else None, ((10, SAY),), 10, "a", most=most)
            self.assert_found((1,) if most > 2 else None, ASKS, 40, "a", most=most)
        self.assert_found(None, ASKS, 80, "b", most=6)
        self.assert_found((0, 1), ASKS, 80, "b", most=7)
        loops = ((10, ("loop", "i", ONE, number(198), ONE)), (20, ("again", "i")), (30, SAY))
        self.assert_found((), loops, 30, "a")
        longer = ((10, ("loop", "i", ONE, number(199), ONE)), *loops[1:])
        self.assert_found(None, longer, 30, "a")
        self.assert_found((), longer, 30, "a", most=201)

    def test_another_box_is_empty_at_that_line(self):
        program = ((10, ("set", "b", ONE)), (20, ("say", (B, A))), (30, NOTE))
        self.assert_found((), program, 20, "a")
        self.assert_found(None, program, 20, "b")
        # Neither is there ahead of the step, though the fault is of the first one.
        both = ((10, ("say", (A, B))),)
        self.assert_found((), both, 10, "a")
        self.assert_found((), both, 10, "b")

    def test_another_fault_at_that_line_or_at_another(self):
        program = ((10, ("say", (("/", ONE, number(0)), A))), (20, SAY))
        self.assert_found(None, program, 10, "a")
        self.assert_found(None, program, 20, "a")
        trapping = ((5, ("trap", 20)), *program)
        self.assert_found(None, trapping, 10, "a")
        self.assert_found((), trapping, 20, "a")

    def test_a_fault_that_leads_to_a_trap_s_line(self):
        for trap in (10, 20, 30, 40):
            self.assert_found((), ((10, ("trap", trap)), (20, SAY), (30, NOTE), (40, NOTE)), 20, "a")
        self.assert_found(None, ((10, ("trap", 40)), (20, SAY), (30, NOTE), (40, NOTE)), 40, "a")

    def test_a_fault_while_trapped(self):
        program = ((10, ("trap", 30)), (20, ("go", 7)), (30, SAY))
        self.assert_found((), program, 30, "a")
        self.assert_found(None, program, 20, "a")
        self.assert_found(None, program, 30, "b", most=2)

    def test_an_elder_fault_of_the_line_while_the_box_is_there(self):
        # 30 comes to the fault for b; then a is set, and 30 done anew comes to it again.
        program = ((10, ("trap", 50)), (20, ("set", "a", ONE)), (30, ("say", (A, B))), (40, END), (50, ("retry",)))
        self.assert_found(None, program, 30, "a", most=30)
        self.assert_found((), program, 30, "b", most=30)

    def test_in_a_fit_and_in_again(self):
        program = ((10, ("fit", "f", "x", add(A, X))), (20, ("say", (fit("f", ONE),))))
        self.assert_found((), program, 20, "a")
        # again without a loop is another fault.
        self.assert_found(None, ((10, ("again", "i")),), 10, "i")

    def test_too_many(self):
        self.assert_refused_beyond_two_thousand_lists(found_empty, ASKS, 40, "a")
        self.assert_refused_beyond_two_thousand_lists(found_empty, (), 40, "a")

    def test_of_drawn_programs(self):
        found = 0
        for seed in range(800):
            program = Chance(seed).program(most=12)
            how = {"worths": (1, "x", 0)[:seed % 4], "most_inputs": seed % 3, "most": 5 + seed % 20}
            pairs = may_be_empty(program)
            for at, name in pairs:
                answer = found_empty(program, at, name, **how)
                found += answer is not None
                self.assertEqual(answer, found_otherwise(program, at, name, **how), (seed, at, name))
        self.assertGreater(found, 50)


def found_otherwise(program, at, name, worths, most_inputs, most):
    for inputs in lists_of(worths, most_inputs):
        states = states_on(program, list(inputs), most=most)
        for one, other in zip(states, states[1:]):
            comes_to_a_fault = other[0] == "faulted" or (other[8] and not one[8])
            if one[1] == at and comes_to_a_fault and other[9] == ("empty", at) and name not in dict(one[2]):
                return inputs
    return None


if __name__ == "__main__":
    unittest.main()
