"""Point 22: two programs held together."""

import unittest

from numberedlines.alike import held, lets_held
from numberedlines.walk import walk
from asking import Asking, lists_of
from programs import Chance
from stepping import NOTE, box, number, text
from things import ODD, with_part

A, B = box("a"), box("b")
ONE = number(1)
END = ("end",)
ENDLESS = ((10, ("go", 10)),)
# Says what is asked, once and twice.
ONCE = ((10, ("ask", "a")), (20, ("say", (A,))))
TWICE = ((10, ("ask", "a")), (20, ("ask", "b")), (30, ("say", (A,))))
DOUBLE = ((10, ("ask", "a")), (20, ("say", (("+", A, A),))))
SQUARE = ((10, ("ask", "a")), (20, ("say", (("*", A, A),))))


def says(*worths):
    return ((10, ("say", tuple(number(worth) for worth in worths))),)


def loops(many):
    """A program that says 1 behind 2 * many + 1 steps."""
    return ((10, ("loop", "i", ONE, number(many), ONE)), (20, NOTE), (30, ("again", "i")), (40, ("say", (ONE,))))


class Held(Asking):
    def assert_held(self, told, one, other, **how):
        for programs in ((one, other), (other, one)):
            self.assert_told(told, held, *programs, **how)
            self.assertIs(lets_held(*programs, told, **how), True)

    def test_alike(self):
        for program in (ONCE, TWICE, DOUBLE, (), says(1), ((10, ("go", 7)),)):
            self.assert_held(("alike", 7), program, program)
        self.assert_held(("alike", 7), (), ((10, NOTE),))
        self.assert_held(("alike", 7), says(1), ((5, NOTE), (7, ("set", "a", ONE)), (9, ("say", (A,)))))
        self.assert_held(("alike", 7), ((10, ("say", (B,))),), ((70, ("say", (A,))),))

    def test_by_nought_and_one_and_two_inputs_where_none_are_told(self):
        for worth in (0, 1):
            one = ((10, ("ask", "a")), (20, ("say", (("=", A, number(worth)),))))
            other = ((10, ("ask", "a")), (20, ("say", (number(0),))))
            self.assert_held(("apart", (worth,)), one, other)
        asking = tuple((at, ("ask", "a")) for at in (1, 2, 3))
        self.assert_held(("apart", (0, 0)), (*asking[:2], (5, ("say", ()))), asking[:2])
        self.assert_held(("alike", 7), (*asking, (5, ("say", ()))), asking)
        for thing in (("alike", 6), ("alike", 8), ("apart", (0, 0, 0))):
            self.assertIs(lets_held(asking, asking, thing), False)
        for worth in (0, 1):
            one = ((10, ("ask", "a")), (20, ("when", ("=", A, number(worth)), 20)))
            self.assert_held(("open", (worth,)), one, one)

    def test_how_many_were_tried(self):
        for worths, most_inputs, many in (((0, 1), 2, 7), ((0, 1), 0, 1), ((0, 1), 1, 3), ((0, 1), 3, 15), ((0,), 5, 6),
                                          ((), 0, 1), ((), 1, 1), ((), 10 ** 99, 1), ((0, 1, "x"), 2, 13), (("x",), 1999, 2000),
                                          (tuple(range(1999)), 1, 2000)):
            self.assert_held(("alike", many), ONCE, ONCE, worths=worths, most_inputs=most_inputs, most=5)

    def test_apart(self):
        self.assert_held(("apart", ()), says(1), says(2))
        self.assert_held(("apart", (1,)), ONCE, DOUBLE)
        self.assert_held(("apart", (1,)), SQUARE, DOUBLE)
        self.assert_held(("alike", 7), SQUARE, ONCE)
        self.assert_held(("apart", (0,)), ONCE, TWICE)

    def test_the_first_inputs_in_the_told_order(self):
        for worths, told in (((0, 1, 2, 3), ("apart", (1,))), ((2, 0, 3), ("apart", (3,))), ((3, 1), ("apart", (3,))),
                             ((2, 0), ("alike", 7)), ((2, 0, "x"), ("apart", ("x",))), (("x", 1), ("apart", ("x",)))):
            self.assert_held(told, SQUARE, DOUBLE, worths=worths)
        sums = tuple(
            ((10, ("ask", "a")), (20, ("ask", "b")), (30, ("say", ((sign, A, B),)))) for sign in ("+", "*"))
        for worths, told in (((0, 1), ("apart", (0, 1))), ((1, 0), ("apart", (1, 1))), ((0, 2), ("apart", (0, 2))),
                             ((2,), ("alike", 3)), ((2, 3), ("apart", (2, 3))), ((0,), ("alike", 3))):
            self.assert_held(told, *sums, worths=worths)
        self.assert_held(("alike", 3), *sums, most_inputs=1)

    def test_fewer_inputs_go_ahead(self):
        one = ((10, ("ask", "a")), (20, ("when", A, 40)), (30, ("ask", "b")), (40, ("say", (A,))))
        other = ((10, ("ask", "a")), (20, ("when", A, 40)), (30, ("ask", "b")), (35, ("set", "a", number(9))),
                 (40, ("say", (("*", A, number(2)),))))
        self.assert_held(("apart", (1,)), one, other)
        self.assert_held(("apart", (0, 0)), one, other, worths=(0,))

    def test_stands(self):
        ended, stopped, asks, faulted = ((10, NOTE),), ((10, ("stop",)), (20, NOTE)), ((10, ("ask", "a")),), ((10, ("back",)),)
        for one in (ended, stopped, asks, faulted):
            for other in (ended, stopped, asks, faulted):
                self.assert_held(("alike", 1) if one == other else ("apart", ()), one, other, worths=())
        self.assert_held(("apart", ()), asks, ended, most_inputs=0)
        # A stop on the last line ends it.
        self.assert_held(("alike", 7), ended, ((10, ("stop",)),))

    def test_faults_words(self):
        noline, back, empty = ((10, ("go", 7)),), ((10, ("back",)),), ((10, ("say", (A,))),)
        self.assert_held(("apart", ()), noline, back)
        self.assert_held(("alike", 7), noline, ((5, NOTE), (77, ("call", 99))))
        self.assert_held(("apart", ()), empty, back)
        # Behind a trap the last fault's word stays.
        trapped = tuple(((10, ("trap", 30)), (20, line), (30, END)) for line in (("go", 7), ("back",)))
        self.assert_held(("apart", ()), *trapped)
        self.assert_held(("apart", ()), trapped[0], ((10, END),))
        self.assert_held(("alike", 7), trapped[0], ((10, ("trap", 40)), (20, ("trap", 99)), (40, NOTE)))

    def test_said(self):
        for one, other in ((says(1), says()), (says(), ()), (says(1, 2), says(2, 1)), (says(1), (*says(1), (20, ("say", ())))),
                           (says(12), ((10, ("say", (text("12"),))),)), (says(1, 2), (*says(1), (20, ("say", (number(2),)))))):
            self.assert_held(("apart", ()), one, other)
        # Boxes, rows, fits, traps and data read are no part of it.
        sets = ((1, ("set", "b", ONE)), (2, ("row", "r", ONE)), (3, ("fit", "f", "x", A)), (4, ("trap", 1)), (5, ("data", (1,))),
                (6, ("read", "b")))
        self.assert_held(("alike", 7), says(1), (*sets, *says(1)))

    def test_cut_by_the_steps_on_one_side_and_on_both(self):
        self.assert_held(("open", ()), ENDLESS, ENDLESS)
        self.assert_held(("open", ()), ENDLESS, ())
        self.assert_held(("open", ()), ENDLESS, says(1))
        self.assert_held(("open", ()), loops(3), ((10, ("say", (ONE,))),), most=7)
        self.assert_held(("alike", 7), loops(3), ((10, ("say", (ONE,))),), most=8)
        self.assert_held(("apart", ()), loops(3), says(2), most=8)
        self.assert_held(("open", ()), loops(3), says(2), most=7)

    def test_two_hundred_steps_where_none_is_told(self):
        self.assert_held(("alike", 7), loops(99), says(1))
        self.assert_held(("open", ()), ((5, NOTE), *loops(99)), says(1))
        self.assertIs(lets_held(((5, NOTE), *loops(99)), says(1), ("open", ())), True)
        self.assert_held(("alike", 7), ((5, NOTE), *loops(99)), says(1), most=201)

    def test_no_steps_at_all(self):
        self.assert_held(("open", ()), says(1), says(2), most=0)
        self.assert_held(("open", ()), (), says(2), most=0)
        self.assert_held(("alike", 7), (), (), most=0)
        self.assert_held(("apart", ()), says(1), says(2), most=1)

    def test_the_first_that_is_cut(self):
        loops_at = ((10, ("ask", "a")), (20, ("when", ("=", A, ONE), 20)))
        self.assert_held(("open", (1,)), loops_at, loops_at)
        self.assert_held(("open", (1,)), loops_at, loops_at, worths=(0, 2, 1))
        self.assert_held(("alike", 7), loops_at, loops_at, worths=(0, 2))
        self.assert_held(("alike", 1), loops_at, loops_at, most_inputs=0)

    def test_apart_goes_ahead_of_one_that_is_cut_earlier(self):
        one = ((10, ("ask", "a")), (20, ("when", ("=", A, number(0)), 20)), (30, ("say", (A,))))
        other = ((10, ("ask", "a")), (20, ("when", ("=", A, number(0)), 20)), (30, ("say", (("*", A, A),))))
        self.assert_held(("apart", (2,)), one, other, worths=(0, 1, 2))
        self.assert_held(("open", (0,)), one, other)

    def test_programs_of_no_lines(self):
        self.assert_held(("alike", 7), (), ())
        self.assert_held(("alike", 1), (), (), worths=())
        self.assert_held(("alike", 7), (), ((10, END),))
        self.assert_held(("apart", ()), (), says())
        self.assert_held(("apart", ()), (), ONCE)

    def test_worths_of_none(self):
        self.assert_held(("alike", 1), ONCE, DOUBLE, worths=())
        self.assert_held(("alike", 1), ONCE, DOUBLE, worths=(), most_inputs=10 ** 99)

    def test_too_many(self):
        for programs in ((ONCE, DOUBLE), ((), ())):
            self.assert_refused_beyond_two_thousand_lists(held, *programs)

    def test_at_the_bound_of_what_is_promised(self):
        self.assert_held(("open", ()), ENDLESS, ENDLESS, worths=tuple(range(1999)), most_inputs=1, most=20)

    def test_of_drawn_programs(self):
        words = []
        for seed in range(600):
            chance = Chance(seed)
            one = chance.program(most=8)
            other = one[:-1] if seed % 2 else chance.program(most=8)
            how = {"worths": (1, "x", 0)[:seed % 4], "most_inputs": seed % 3, "most": 5 + seed % 30}
            told = held(one, other, **how)
            words.append(told[0])
            self.assertEqual(told, held_otherwise(one, other, **how), seed)
            self.assertEqual(held(other, one, **how), told)
        for word in ("apart", "open", "alike"):
            self.assertGreater(words.count(word), 20)


def held_otherwise(one, other, worths, most_inputs, most):
    lists = lists_of(worths, most_inputs)
    ends = {inputs: [walk(program, list(inputs), most=most)[0] for program in (one, other)] for inputs in lists}
    cut = [inputs for inputs in lists if "going" in (ends[inputs][0][0], ends[inputs][1][0])]

    def told(state):
        return (state[0], state[9] and state[9][0], state[11])

    apart = [inputs for inputs in lists if inputs not in cut and told(ends[inputs][0]) != told(ends[inputs][1])]
    if apart:
        return ("apart", apart[0])
    return ("open", cut[0]) if cut else ("alike", len(lists))


class LetsHeld(Asking):
    def assert_lets(self, told, one, other, thing, **how):
        self.assert_told(told, lets_held, one, other, thing, **how)

    def test_each_right_one_and_no_other(self):
        things = [(word, part) for word in ("apart", "open") for part in lists_of((0, 1), 2)]
        things += [("alike", many) for many in range(10)]
        for one, other in ((ONCE, ONCE), (ONCE, DOUBLE), (ENDLESS, ONCE), (ONCE, TWICE), ((), ())):
            right = held(one, other)
            for thing in things:
                self.assert_lets(thing == right, one, other, thing)

    def test_a_part_otherwise(self):
        right = ("apart", (1,))
        self.assert_lets(True, ONCE, DOUBLE, right)
        for at, part in ((0, "open"), (0, "alike"), (0, "Apart"), (0, None), (0, ("apart",)), (1, ()), (1, (0,)), (1, (2,)),
                         (1, (1, 0)), (1, (1, 1)), (1, (True,)), (1, [1]), (1, 1), (1, "1"), (1, ("1",)), (1, None), (1, {1: 1}),
                         (1, ((1,),))):
            self.assert_lets(False, ONCE, DOUBLE, with_part(right, at, part))
        for thing in (list(right), right[:1], (*right, 1), (right,), dict([right]), "apart"):
            self.assert_lets(False, ONCE, DOUBLE, thing)

    def test_truths_are_no_numbers(self):
        self.assert_lets(True, (), (), ("alike", 1), worths=())
        self.assert_lets(False, (), (), ("alike", True), worths=())
        self.assert_lets(True, ONCE, TWICE, ("apart", (0,)))
        self.assert_lets(False, ONCE, TWICE, ("apart", (False,)))

    def test_of_how_it_is_asked(self):
        self.assert_lets(True, ONCE, ONCE, ("alike", 3), most_inputs=1)
        self.assert_lets(False, ONCE, ONCE, ("alike", 7), most_inputs=1)
        self.assert_lets(True, ONCE, ONCE, ("open", ()), most=0)
        self.assert_lets(True, ONCE, DOUBLE, ("apart", (5,)), worths=(0, 5, 1))

    def test_things_of_all_other_kinds(self):
        for one, other in ((ONCE, ONCE), (ONCE, DOUBLE), (ENDLESS, ENDLESS)):
            for thing in (*ODD, None, "", (), 0, 7, "alike", ("alike",), ["alike", 7], ("alike", "7"), ("alike", (7,))):
                self.assert_lets(False, one, other, thing)

    def test_too_many(self):
        for thing in (("alike", 2000), None):
            self.assert_refused_beyond_two_thousand_lists(lets_held, ONCE, ONCE, thing)


if __name__ == "__main__":
    unittest.main()
