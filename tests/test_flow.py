"""Points 19 and 20: the lines that may be next, and those that are never come to."""

import unittest

from numberedlines.flow import may_be_next, never
from numberedlines.walk import gone_on, states_on, step
from programs import Chance
from stepping import NOTE, box, number
from things import is_plain, is_same

A = box("a")
SET = ("set", "a", number(1))


class MayBeNext(unittest.TestCase):
    def assert_next(self, program, at, told):
        before = repr(program)
        for _ in range(2):
            answer = may_be_next(program, at)
            self.assertTrue(is_same(answer, told), (program, at, answer, told))
            self.assertTrue(is_plain(answer))
            answer.append(7)
        self.assertEqual(repr(program), before)

    def assert_of(self, statement, amid, last, others=()):
        """At 20 with lines around it, and as the last line; told are both, without traps and with."""
        around = ((10, NOTE), (20, statement), (30, NOTE), (40, NOTE), *others)
        self.assert_next(around, 20, amid)
        self.assert_next(around[:2], 20, last)
        idle = statement[0] in ("note", "data", "end", "stop")
        trapping = ((5, ("trap", 10)), *around)
        self.assert_next(trapping, 20, amid if idle else sorted({*amid, 10}))
        self.assert_next(((5, ("trap", 10)), *around[:2]), 20, last if idle else sorted({*last, 10}))

    def test_of_lines_that_just_go_on(self):
        for statement in (
            SET, ("setcell", "r", A, A), ("say", ()), ("say", (A,)), ("ask", "a"), ("data", (1,)), ("read", "a"),
            ("anew", None), ("anew", 10), ("row", "r", A), ("fit", "f", "x", A), ("stop",), NOTE, ("trap", 0),
            ("trap", 77), ("loop", "i", A, A, A), ("again", "i"),
        ):
            self.assert_of(statement, [30], [0])

    def test_go(self):
        self.assert_of(("go", 40), [40], [])
        self.assert_of(("go", 20), [20], [20])
        self.assert_of(("go", 10), [10], [10])
        self.assert_of(("go", 7), [], [])

    def test_call_and_when_have_the_line_behind_too(self):
        for word in ("call", "when"):
            parts = (A,) if word == "when" else ()
            self.assert_of((word, *parts, 40), [30, 40], [0])
            self.assert_of((word, *parts, 10), [10, 30], [0, 10])
            self.assert_of((word, *parts, 20), [20, 30], [0, 20])
            self.assert_of((word, *parts, 30), [30], [0])
            self.assert_of((word, *parts, 7), [30], [0])

    def test_pick(self):
        for way in ("go", "call"):
            self.assert_of(("pick", A, way, (40, 10)), [10, 30, 40], [0, 10])
            self.assert_of(("pick", A, way, (40, 40, 7, 20, 30, 9999)), [20, 30, 40], [0, 20])
            self.assert_of(("pick", A, way, (7,)), [30], [0])

    def test_goby_all_lines(self):
        self.assert_next(((10, NOTE), (20, ("goby", A)), (30, ("data", (1,)))), 20, [10, 20, 30])
        self.assert_next(((20, ("goby", A)),), 20, [20])

    def test_end(self):
        self.assert_of(("end",), [0], [0])

    def test_back_without_calls(self):
        self.assert_of(("back",), [], [])
        self.assert_next(((10, ("pick", A, "go", (10,))), (20, ("back",)), (30, NOTE)), 20, [])

    def test_back_with_calls_and_choices_of_call(self):
        program = ((5, ("back",)), (10, ("call", 7)), (20, NOTE), (30, ("pick", A, "call", (5, 6))), (40, NOTE),
                   (50, ("pick", A, "go", (5,))), (60, NOTE))
        self.assert_next(program, 5, [20, 40])
        self.assert_next((*program, (70, ("call", 5))), 5, [0, 20, 40])
        self.assert_next(((5, ("back",)), (10, ("pick", A, "call", (5,)))), 5, [0])
        self.assert_next(((5, ("call", 7)), (10, ("back",))), 10, [10])

    def test_loop(self):
        program = ((5, ("again", "i")), (10, ("loop", "i", A, A, A)), (20, ("again", "k")), (30, ("again", "i")),
                   (40, ("again", "i")), (50, NOTE))
        self.assert_next(program, 10, [20, 40])
        self.assert_next(program[:4], 10, [0, 20])
        self.assert_next(program[:3], 10, [20])
        self.assert_next(program[:2], 10, [0])
        self.assert_next(((10, ("loop", "i", A, A, A)), (20, ("again", "i")), (30, NOTE)), 10, [20, 30])
        self.assert_next(((10, ("loop", "i", A, A, A)), (20, ("again", "i"))), 10, [0, 20])

    def test_again(self):
        program = ((10, ("loop", "i", A, A, A)), (20, ("loop", "k", A, A, A)), (30, ("again", "k")),
                   (40, ("again", "i")), (50, ("loop", "i", A, A, A)), (60, ("again", "i")))
        self.assert_next(program, 40, [20, 50, 60])
        self.assert_next(program, 60, [0, 20, 60])
        self.assert_next(program, 30, [30, 40])
        self.assert_next((*program[:4], (50, ("loop", "i", A, A, A))), 40, [0, 20, 50])
        self.assert_next(((10, ("again", "ii")), (20, ("loop", "i", A, A, A)), (30, NOTE)), 10, [20])

    def test_retry_all_lines_but_notes_and_data(self):
        program = ((10, NOTE), (20, SET), (30, ("data", (1,))), (40, ("retry",)), (50, ("stop",)), (60, ("end",)), (70, NOTE))
        self.assert_next(program, 40, [20, 40, 50, 60])
        self.assert_next(((5, ("trap", 10)), *program), 40, [5, 10, 20, 40, 50, 60])
        self.assert_next(((10, SET), (20, ("retry",)), (30, NOTE)), 20, [10, 20])
        self.assert_next(((20, ("retry",)),), 20, [20])

    def test_pass_the_lines_behind_all_those(self):
        program = ((10, NOTE), (20, SET), (30, ("data", (1,))), (40, ("pass",)), (50, ("stop",)), (60, ("end",)), (70, NOTE))
        self.assert_next(program, 40, [30, 50, 60, 70])
        self.assert_next(program[:6], 40, [0, 30, 50, 60])
        self.assert_next(((5, ("trap", 40)), *program), 40, [10, 30, 40, 50, 60, 70])
        self.assert_next(((40, ("pass",)),), 40, [0])

    def test_traps(self):
        program = ((10, ("trap", 40)), (20, SET), (30, ("trap", 7)), (40, NOTE), (50, ("trap", 0)), (60, ("trap", 20)),
                   (70, ("trap", 40)), (80, ("end",)), (90, ("stop",)), (95, ("data", (1,))), (99, ("trap", 99)))
        for at, told in ((10, [20, 40, 99]), (20, [20, 30, 40, 99]), (40, [50]), (80, [0]), (90, [95]), (95, [99]),
                         (99, [0, 20, 40, 99])):
            self.assert_next(program, at, told)
        self.assert_next(((10, ("trap", 10)),), 10, [0, 10])


class Never(unittest.TestCase):
    def assert_never(self, program, told):
        before = repr(program)
        for _ in range(2):
            answer = never(program)
            self.assertTrue(is_same(answer, told), (program, answer, told))
            self.assertTrue(is_plain(answer))
            answer.append(7)
        self.assertEqual(repr(program), before)

    def test_of_no_lines_and_of_one(self):
        self.assert_never((), [])
        for statement in (NOTE, ("end",), ("go", 10), ("go", 20), ("goby", A), ("back",)):
            self.assert_never(((10, statement),), [])

    def test_all_lines_come_to(self):
        self.assert_never(((10, NOTE), (20, SET), (30, ("end",))), [])
        self.assert_never(((10, ("goby", A)), (20, ("end",)), (30, ("end",)), (40, ("end",))), [])
        self.assert_never(((10, ("go", 30)), (20, ("end",)), (30, ("go", 20))), [])

    def test_lines_that_no_way_leads_to(self):
        self.assert_never(((10, ("end",)), (20, NOTE), (30, NOTE)), [20, 30])
        self.assert_never(((10, ("go", 30)), (20, NOTE), (30, ("end",)), (40, ("go", 20))), [20, 40])
        self.assert_never(((10, ("go", 7)), (20, ("end",))), [20])
        self.assert_never(((10, ("when", A, 30)), (20, ("end",)), (25, NOTE), (30, ("end",))), [25])
        self.assert_never(((10, ("back",)), (20, ("call", 10))), [20])
        self.assert_never(((10, ("call", 30)), (20, ("end",)), (25, NOTE), (30, ("back",)), (40, NOTE)), [25, 40])

    def test_lines_that_lead_to_one_another_only(self):
        self.assert_never(((10, ("end",)), (20, ("go", 30)), (30, ("go", 20))), [20, 30])
        self.assert_never(((10, ("end",)), (20, ("go", 10))), [20])

    def test_a_trap_leads_to_its_line_wherever_it_stands(self):
        self.assert_never(((10, SET), (20, ("end",)), (30, NOTE), (40, ("trap", 30))), [])
        self.assert_never(((10, NOTE), (20, ("end",)), (30, NOTE), (40, ("trap", 30))), [30, 40])
        self.assert_never(((10, ("trap", 40)), (20, ("end",)), (30, NOTE), (40, ("end",))), [30])
        self.assert_never(((10, ("trap", 0)), (20, ("end",)), (30, NOTE)), [30])

    def test_no_walk_comes_to_them(self):
        told = 0
        for seed in range(600):
            chance = Chance(seed)
            program, inputs = chance.program(), chance.inputs()
            barred = never(program)
            told += len(barred)
            for state in states_on(program, inputs, most=80):
                self.assertNotIn(state[1], barred, (seed, state))
        self.assertGreater(told, 500)

    def test_each_step_of_a_walk_is_one_of_the_ways(self):
        for seed in range(600):
            chance = Chance(seed)
            program, inputs = chance.program(), chance.inputs()
            states = states_on(program, inputs, most=80)
            for one, other in zip(states, states[1:]):
                if other[0] in ("going", "stopped", "ended"):
                    self.assertIn(other[1], may_be_next(program, one[1]), (seed, one, other))
            last = gone_on(program, states[-1], inputs + [1] * 5)
            other = step(program, last, inputs + [1] * 5)
            if last[0] == "going" and other[0] == "going":
                self.assertIn(other[1], may_be_next(program, last[1]))


if __name__ == "__main__":
    unittest.main()
