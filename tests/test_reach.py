"""Point 20: papers of lines that are never come to, and what is told of a line."""

import unittest

from numberedlines.flow import may_be_next, never
from numberedlines.reach import is_paper, lets_told, told_of
from numberedlines.walk import states_on
from asking import Asking, lists_of
from programs import Chance
from stepping import NOTE, box, number, text
from things import HUNDRED_FIGURES, ODD, with_part

A, B = box("a"), box("b")
END = ("end",)
# 30 and 40 are never come to, 20 and 50 are.
SKIPS = ((10, ("when", A, 50)), (20, ("go", 50)), (30, NOTE), (40, ("go", 30)), (50, END))
# What is come to hangs on two inputs.
ASKS = (
    (10, ("ask", "a")),
    (20, ("when", A, 40)),
    (30, END),
    (40, ("ask", "b")),
    (50, ("when", B, 70)),
    (60, END),
    (70, ("stop",)),
    (80, NOTE),
    (90, ("go", 10)),
    (95, NOTE),
)
COUNTS = (
    (10, ("set", "a", number(0))),
    (20, ("set", "a", ("+", A, number(1)))),
    (30, ("when", ("<", A, number(3)), 20)),
    (40, NOTE),
)


class IsPaper(Asking):
    def assert_paper(self, told, thing, at=30, program=SKIPS):
        self.assert_told(told, is_paper, program, at, thing)

    def test_right_ones(self):
        for at in (30, 40):
            self.assert_paper(True, (10, 20, 50), at)
        self.assert_paper(True, (10,), 20, ((10, END), (20, NOTE)))
        self.assert_paper(True, (10, 30), 20, ((10, ("go", 30)), (20, NOTE), (30, ("go", 10))))

    def test_with_more_lines_than_are_come_to(self):
        program = ((10, END), (20, ("go", 30)), (30, ("go", 20)), (40, NOTE), (50, NOTE))
        for told, thing in ((True, (10,)), (True, (10, 20, 30)), (True, (10, 50)), (True, (10, 20, 30, 50)),
                            (False, (10, 20)), (False, (10, 30)), (False, (10, 20, 30, 40))):
            self.assert_paper(told, thing, 40, program)
        self.assert_paper(True, (10, 20, 30), 50, program)
        # 50 is behind 40, so what has 40 is no paper of it.
        self.assert_paper(False, (10, 40), 50, program)

    def test_a_way_out_to_nought_is_none(self):
        self.assert_paper(True, (10, 30), 20, ((10, ("go", 30)), (20, NOTE), (30, NOTE)))
        self.assert_paper(True, (10, 30), 20, ((10, ("go", 30)), (20, NOTE), (30, END)))

    def test_without_the_first_line(self):
        for thing in ((), (20, 50), (50,)):
            self.assert_paper(False, thing)

    def test_with_that_line(self):
        self.assert_paper(False, (10, 20, 30, 50))
        self.assert_paper(False, (10, 20, 30, 40, 50))
        self.assert_paper(True, (10, 40, 50), 30, ((10, ("go", 50)), (30, NOTE), (40, END), (50, END)))
        self.assert_paper(False, (10, 40, 50), 40, ((10, ("go", 50)), (30, NOTE), (40, END), (50, END)))

    def test_with_a_number_that_is_no_line(self):
        for more in (0, 5, -10, 25, 60, 9999, HUNDRED_FIGURES, -HUNDRED_FIGURES):
            self.assert_paper(False, tuple(sorted((10, 20, 50, more))))

    def test_not_rising_or_twice(self):
        for thing in ((10, 50, 20), (50, 20, 10), (20, 10, 50), (10, 10, 20, 50), (10, 20, 50, 50)):
            self.assert_paper(False, thing)

    def test_from_which_a_way_leads_out(self):
        for thing in ((10,), (10, 20), (10, 50)):
            self.assert_paper(False, thing)
        # By a trap's line, from a line that may come to a fault.
        program = ((10, ("set", "a", A)), (20, END), (30, NOTE), (40, ("trap", 30)))
        self.assert_paper(False, (10, 20), 30, program)
        self.assert_paper(True, (10, 20), 30, (*program[:3], (40, ("trap", 0))))

    def test_truths_lists_and_things_of_other_kinds(self):
        program = ((1, END), (2, NOTE))
        self.assert_paper(True, (1,), 2, program)
        for thing in ((True,), [1], {1: True}, "1", ("1",), 1, None, ((1,),), (1, None), (None,), (1, "a"), ([1],)):
            self.assert_paper(False, thing, 2, program)
        for thing in (*ODD, [10, 20, 50], "10 20 50", None, 10, 0, ""):
            self.assert_paper(False, thing)

    def test_of_a_line_that_is_come_to(self):
        for at in (10, 20, 50):
            for thing in ((), (10,), (10, 20), (10, 50), (10, 20, 50), (10, 20, 30, 40), (10, 20, 30, 40, 50)):
                self.assert_paper(False, thing, at)

    def test_of_no_lines_and_of_no_line(self):
        for thing in ((), (10,), None):
            self.assert_paper(False, thing, 10, ())
            self.assert_paper(False, thing, 25)

    def test_of_drawn_programs(self):
        for seed in range(200):
            program = Chance(seed).program()
            come_to = tuple(at for at, _ in program if at not in never(program))
            for at, _ in program:
                self.assertIs(is_paper(program, at, come_to), at not in come_to)
                for left in come_to:
                    less = tuple(other for other in come_to if other != left)
                    self.assertFalse(is_paper(program, at, less) and left == program[0][0])
                    ways = {way for other in less for way in may_be_next(program, other)}
                    right = program[0][0] in less and at not in less and ways <= {0, *less}
                    self.assertIs(is_paper(program, at, less), right)


def told_otherwise(program, at, worths, most_inputs, most):
    for inputs in lists_of(worths, most_inputs):
        states = states_on(program, list(inputs), most=most)
        places = [state[1] if state[0] == "going" else 0 for state in states]
        if at in places:
            return ("reached", inputs, places.index(at))
    return ("open",)


class ToldOf(Asking):
    def assert_line(self, told, program, at, **how):
        self.assert_told(told, told_of, program, at, **how)
        self.assertIs(lets_told(program, at, told, **how), True)

    def test_never_with_its_paper(self):
        for at in (30, 40):
            for how in ({}, {"worths": ()}, {"most_inputs": 0}, {"most": 0}, {"worths": ("x",), "most_inputs": 1}):
                word, paper = told_of(SKIPS, at, **how)
                self.assertEqual(word, "never")
                self.assertTrue(is_paper(SKIPS, at, paper))
                self.assert_line((word, paper), SKIPS, at, **how)

    def test_the_first_line(self):
        for program in (SKIPS, ASKS, COUNTS, ((7, END),)):
            for how in ({}, {"most": 0}, {"worths": ()}, {"most_inputs": 0}):
                self.assert_line(("reached", (), 0), program, program[0][0], **how)

    def test_by_none_one_and_two_inputs(self):
        for at, inputs, steps in ((10, (), 0), (20, (0,), 1), (30, (0,), 2), (40, (1,), 2), (50, (1, 0), 3),
                                  (60, (1, 0), 4), (70, (1, 1), 4)):
            self.assert_line(("reached", inputs, steps), ASKS, at)

    def test_behind_a_stop_it_is_open(self):
        for at in (80, 90):
            self.assert_line(("open",), ASKS, at)

    def test_where_it_asks_and_is_faulted_it_was_going_ahead(self):
        program = ((10, ("ask", "a")), (20, ("say", (box("z"),))), (30, NOTE))
        self.assert_line(("reached", (), 0), program, 10)
        self.assert_line(("reached", (0,), 1), program, 20)
        self.assert_line(("open",), program, 30)

    def test_the_worths_go_in_their_order(self):
        for worths, at, inputs in (
            ((1, 0), 20, (1,)), ((1, 0), 30, (0,)), ((0, 1, 2), 40, (1,)), ((2, 1, 0), 40, (2,)), ((2, 1), 70, (2, 2)),
            ((0, 2, 1), 70, (2, 2)), ((5, 0), 60, (5, 0)), ((-1,), 70, (-1, -1)), (("x", 0, 1), 20, ("x",)),
            (("x", 0, 1), 40, (1,)), ((1, "x", 0), 50, (1, 1)), (("", 1), 70, (1, 1)),
        ):
            steps = told_of(ASKS, at, worths=worths)[2]
            self.assert_line(("reached", inputs, steps), ASKS, at, worths=worths)

    def test_fewer_inputs_go_ahead(self):
        # By two inputs it is come to in fewer steps than by one.
        program = ((10, ("ask", "a")), (20, ("when", A, 60)), (30, NOTE), (40, NOTE), (50, ("go", 90)), (60, ("ask", "b")),
                   (70, ("go", 90)), (90, END))
        self.assert_line(("reached", (0,), 5), program, 90)
        self.assert_line(("reached", (1, 1), 4), program, 90, worths=(1,))

    def test_texts(self):
        program = ((10, ("ask", "a")), (20, ("when", ("=", A, text("yes")), 40)), (30, END), (40, NOTE))
        self.assert_line(("open",), program, 40)
        self.assert_line(("reached", ("yes",), 2), program, 40, worths=("no", 5, "yes"))
        self.assert_line(("open",), program, 40, worths=("no", ""))

    def test_the_fewest_steps(self):
        for at, steps in ((10, 0), (20, 1), (30, 2), (40, 7)):
            self.assert_line(("reached", (), steps), COUNTS, at)

    def test_more_steps_than_told(self):
        for most in (0, 1, 2, 6, 7, 8):
            for at, steps in ((10, 0), (20, 1), (30, 2), (40, 7)):
                told = ("reached", (), steps) if steps <= most else ("open",)
                self.assert_line(told, COUNTS, at, most=most)
        self.assert_line(("open",), COUNTS, 40, most=0)

    def test_two_hundred_steps_where_none_is_told(self):
        program = ((10, ("loop", "i", number(1), number(66), number(1))), (20, NOTE), (30, ("again", "i")), (40, NOTE),
                   (50, NOTE))
        steps = 1 + 2 * 66
        self.assert_line(("reached", (), steps), program, 40)
        longer = with_part(program, 0, (10, ("loop", "i", number(1), number(99), number(1))))
        self.assert_line(("reached", (), 199), longer, 40)
        self.assert_line(("reached", (), 200), longer, 50)
        longest = with_part(program, 0, (10, ("loop", "i", number(1), number(100), number(1))))
        self.assert_line(("open",), longest, 40)
        self.assert_line(("reached", (), 201), longest, 40, most=201)

    def test_more_inputs_than_told(self):
        for many, at in ((0, 20), (0, 40), (1, 50), (1, 70)):
            self.assert_line(("open",), ASKS, at, most_inputs=many)
        self.assert_line(("reached", (1,), 2), ASKS, 40, most_inputs=1)
        three = ((10, ("ask", "a")), (20, ("ask", "a")), (30, ("ask", "a")), (40, NOTE))
        self.assert_line(("open",), three, 40)
        self.assert_line(("reached", (0, 0, 0), 3), three, 40, most_inputs=3)
        self.assert_line(("reached", ("x",) * 3, 3), three, 40, worths=("x",), most_inputs=1999, most=20)

    def test_worths_of_none(self):
        for most_inputs in (0, 1, 2, 10 ** 99):
            self.assert_line(("reached", (), 0), ASKS, 10, worths=(), most_inputs=most_inputs)
            self.assert_line(("open",), ASKS, 20, worths=(), most_inputs=most_inputs)

    def test_inputs_beyond_what_is_asked(self):
        program = ((10, ("go", 30)), (20, NOTE), (30, ("ask", "a")), (40, ("when", A, 20)), (50, END))
        self.assert_line(("reached", (1,), 3), program, 20, most_inputs=5)

    def test_too_many(self):
        for at in (10, 30):
            self.assert_refused_beyond_two_thousand_lists(told_of, SKIPS, at)

    def test_of_drawn_programs(self):
        words = []
        for seed in range(250):
            program = Chance(seed).program(most=12)
            for at, _ in program:
                how = {"worths": (1, "x", 0)[:seed % 4], "most_inputs": seed % 3, "most": 5 + seed % 20}
                told = told_of(program, at, **how)
                words.append(told[0])
                if at in never(program):
                    self.assertTrue(told[0] == "never" and is_paper(program, at, told[1]), (seed, at, told))
                else:
                    self.assertEqual(told, told_otherwise(program, at, **how), (seed, at))
        for word in ("never", "reached", "open"):
            self.assertGreater(words.count(word), 100)


class LetsTold(Asking):
    def assert_lets(self, told, program, at, thing, **how):
        self.assert_told(told, lets_told, program, at, thing, **how)

    def test_each_right_telling_and_no_other(self):
        tellings = [("open",), ("never", (10,)), ("never", ())]
        tellings += [("reached", inputs, steps) for inputs in lists_of((0, 1), 2) for steps in range(6)]
        for at, _ in ASKS:
            right = told_of(ASKS, at)
            for thing in tellings:
                self.assert_lets(thing == right, ASKS, at, thing)

    def test_other_right_papers(self):
        program = ((10, END), (20, ("go", 30)), (30, ("go", 20)), (40, NOTE), (50, NOTE))
        for told, paper in ((True, (10,)), (True, (10, 20, 30)), (True, (10, 50)), (False, (10, 20)), (False, ()),
                            (False, (10, 40)), (False, [10]), (False, (50, 10)), (False, None), (False, 10)):
            self.assert_lets(told, program, 40, ("never", paper))
        for thing in (("open",), ("reached", (), 0), ("reached", (), 1), ("never",), ("never", (10,), 0), ["never", (10,)],
                      ("Never", (10,)), ("never", ((10,),))):
            self.assert_lets(False, program, 40, thing)

    def test_never_of_a_line_that_is_come_to(self):
        for at in (10, 20, 70, 80):
            for paper in ((), (10,), tuple(line for line, _ in ASKS if line != at)):
                self.assert_lets(False, ASKS, at, ("never", paper))

    def test_a_part_otherwise(self):
        right = ("reached", (1,), 2)
        self.assert_lets(True, ASKS, 40, right)
        for at, part in ((0, "Reached"), (0, "open"), (0, "never"), (0, None), (0, 1), (1, ()), (1, (0,)), (1, (2,)),
                         (1, (1, 0)), (1, (1, 1)), (1, [1]), (1, 1), (1, "1"), (1, ("1",)), (1, (True,)), (1, None),
                         (1, {1: 1}), (1, ((1,),)), (2, 1), (2, 3), (2, True), (2, "2"), (2, None), (2, (2,)), (2, [])):
            self.assert_lets(False, ASKS, 40, with_part(right, at, part))
        for thing in (right[:2], right[:1], (*right, 2), list(right), (right,), dict(enumerate(right)), "reached"):
            self.assert_lets(False, ASKS, 40, thing)

    def test_truths_are_no_numbers(self):
        self.assert_lets(True, ASKS, 20, ("reached", (0,), 1))
        for thing in (("reached", (False,), 1), ("reached", (0,), True), ("reached", (False,), True)):
            self.assert_lets(False, ASKS, 20, thing)
        self.assert_lets(True, ASKS, 10, ("reached", (), 0))
        self.assert_lets(False, ASKS, 10, ("reached", (), False))
        program = ((1, END), (2, NOTE))
        self.assert_lets(True, program, 2, ("never", (1,)))
        self.assert_lets(False, program, 2, ("never", (True,)))

    def test_other_inputs_that_come_to_it_too(self):
        self.assert_lets(True, ASKS, 20, ("reached", (1,), 1), worths=(1, 0))
        self.assert_lets(False, ASKS, 20, ("reached", (1,), 1))
        self.assert_lets(False, ASKS, 20, ("reached", (0, 0), 1))

    def test_open(self):
        self.assert_lets(True, ASKS, 80, ("open",))
        for thing in (["open"], "open", ("open", ()), ("open", None), (), ("Open",), ("open", "open"), (("open",),)):
            self.assert_lets(False, ASKS, 80, thing)
        self.assert_lets(False, ASKS, 20, ("open",))
        self.assert_lets(True, ASKS, 20, ("open",), most_inputs=0)
        self.assert_lets(True, ASKS, 20, ("open",), worths=())
        self.assert_lets(True, COUNTS, 40, ("open",), most=6)
        self.assert_lets(False, COUNTS, 40, ("open",), most=7)

    def test_things_of_all_other_kinds(self):
        for program, at in ((ASKS, 20), (ASKS, 80), (SKIPS, 30)):
            for thing in (*ODD, None, "", (), 0, 1, "open", "never", ("reached",), ("never",)):
                self.assert_lets(False, program, at, thing)

    def test_too_many(self):
        for thing in (("open",), ("never", (10, 20, 50)), None):
            self.assert_refused_beyond_two_thousand_lists(lets_told, SKIPS, 30, thing)


if __name__ == "__main__":
    unittest.main()
