"""Point 14: the machine's steps and walks, by made rows and by whatever rows."""

import unittest

from numberedlines.code import is_code, made
from numberedlines.machine import machine_step, machine_walk
from numberedlines.states import first_state, is_state
from numberedlines.walk import gone_on, states_on, step, walk
from programs import Chance
from stepping import COUNTS, INPUTS, NOTE, PARTS, amid, box, full, number
from things import is_plain, is_same

TOP = 10 ** 12
PROGRAM = amid(NOTE)
# A fit that calls itself, and those that call another one: so many deep.
SELF = (("f", "x", ("fit", "f", box("x"))),)


def code_of(*rows, program=PROGRAM):
    """The program's made rows, but those of line 10."""
    return tuple((at, rows if at == 10 else made_rows) for at, made_rows in made(program))


def chain(many):
    """So many fits, each calling the next one; the last one adds 1."""
    names = ["f" + chr(ord("a") + at) for at in range(many)]
    fits = [(name, "x", ("fit", inner, box("x"))) for name, inner in zip(names, names[1:])]
    return (*fits, (names[-1], "x", ("+", box("x"), number(1))))


class Rows(unittest.TestCase):
    def assert_step(self, rows, told, program=PROGRAM, inputs=INPUTS, **ahead):
        code = code_of(*rows, program=program)
        self.assertTrue(is_code(code), rows)
        state = full(**ahead)
        inputs = list(inputs)
        before = repr((code, program, state, inputs))
        for _ in range(2):
            answer = machine_step(code, program, state, inputs)
            self.assertTrue(is_same(answer, told), (rows, answer, told))
            self.assertTrue(is_plain(answer))
            self.assertTrue(is_state(program, answer))
        self.assertEqual(repr((code, program, state, inputs)), before)

    def assert_lays(self, rows, *worths, **ahead):
        """The rows leave just these worths on the pile, the upper one last."""
        said = (*PARTS["said"], worths)
        self.assert_step((*rows, ("do", "say", len(worths))), full(**{**ahead, "said": said, "at": 20}), **ahead)

    def assert_rows_fault(self, rows, word, **ahead):
        """The rows with their act come to that fault, with a trap and without."""
        fault = (word, 10)
        self.assert_step(rows, full(**{**ahead, "stand": "faulted", "fault": fault}), **ahead)
        trapped = {**ahead, "trap": 5}
        self.assert_step(rows, full(**{**trapped, "at": 5, "trapped": True, "fault": fault}), **trapped)
        trapped = {**trapped, "trapped": True}
        self.assert_step(rows, full(**{**trapped, "stand": "faulted", "fault": fault}), **trapped)

    def assert_faults(self, rows, word, **ahead):
        """The rows themselves come to that fault, whatever the act is."""
        for act in (("do", "say", 1), ("do", "say", 0), ("do", "say", 4), ("do", "end"), ("do", "go", 7), ("do", "goby")):
            self.assert_rows_fault((*rows, act), word, **ahead)


class EachRow(Rows):
    def test_push(self):
        for worth in (0, 1, -1, TOP, -TOP, "", "x" * 100):
            self.assert_lays((("push", worth),), worth)
        self.assert_lays((("push", 1), ("push", "two"), ("push", 3)), 1, "two", 3)

    def test_box_why_and_where(self):
        self.assert_lays((("box", "k"), ("box", "t")), 7, "two")
        self.assert_lays((("why",), ("where",)), "great", 95)
        self.assert_faults((("box", "b"),), "empty")
        self.assert_faults((("why",),), "empty", fault=None)
        self.assert_faults((("where",),), "empty", fault=None)

    def test_cell(self):
        self.assert_lays((("push", 9), ("push", 1), ("cell", "r")), 9, "one")
        self.assert_lays((("push", 0), ("cell", "r")), 0)
        self.assert_lays((("push", 2), ("cell", "r")), 2)
        self.assert_faults((("push", 0), ("cell", "a")), "norow")
        self.assert_faults((("push", "x"), ("cell", "a")), "norow")
        self.assert_faults((("push", "0"), ("cell", "r")), "kind")
        for place in (3, -1, TOP, -TOP):
            self.assert_faults((("push", place), ("cell", "r")), "range")

    def test_fit(self):
        self.assert_lays((("push", 9), ("push", "x"), ("fit", "f")), 9, "x")
        self.assert_lays((("push", 5), ("fit", "g")), 6)
        self.assert_lays((("push", -5), ("fit", "g")), -4)
        self.assert_faults((("push", "x"), ("fit", "g")), "kind")
        self.assert_faults((("push", 5), ("fit", "h")), "nofit")

    def test_fits_in_one_another_twenty_and_twenty_one(self):
        self.assert_lays((("push", 5), ("fit", "fa")), 6, fits=chain(20))
        self.assert_faults((("push", 5), ("fit", "fa")), "deep", fits=chain(21))
        self.assert_lays((("push", 5), ("fit", "fb")), 6, fits=chain(21))
        self.assert_faults((("push", 5), ("fit", "f")), "deep", fits=SELF)
        # Each row's own call is the first one: rows behind one another are not in one another.
        self.assert_lays((("push", 5), ("fit", "fa"), ("fit", "fa"), ("fit", "fb")), 8, fits=chain(20))

    def test_has(self):
        self.assert_lays((("push", 3), ("has", "f")), 3)
        self.assert_lays((("has", "f"), ("has", "g")))
        self.assert_faults((("has", "h"),), "nofit")
        self.assert_faults((("push", 1), ("has", "a")), "nofit")
        self.assert_faults((("has", "h"), ("box", "b")), "nofit")
        self.assert_faults((("box", "b"), ("has", "h")), "empty")

    def test_one(self):
        for worth, told in ((0, 1), (1, 0), (-3, 0), (TOP, 0)):
            self.assert_lays((("push", 9), ("push", worth), ("one", "not")), 9, told)
        self.assert_lays((("push", ""), ("one", "size")), 0)
        self.assert_lays((("push", "x" * 100), ("one", "size")), 100)
        self.assert_faults((("push", "x"), ("one", "not")), "kind")
        self.assert_faults((("push", 5), ("one", "size")), "kind")

    def test_two(self):
        for sign, left, right, told in (
            ("+", 5, -3, 2), ("+", "ab", "c", "abc"), ("-", 5, 7, -2), ("*", -2, 7, -14), ("/", 7, 2, 3),
            ("/", -7, 2, -4), ("rest", 7, 4, 3), ("rest", -7, 4, 1), ("rest", 7, -4, -1), ("<", 1, 2, 1),
            ("<", 2, 1, 0), ("<", "a", "b", 1), ("=", 2, 2, 1), ("=", "a", "b", 0), (">", 2, 1, 1), (">", "a", "b", 0),
            ("and", 2, 0, 0), ("and", -1, 3, 1), ("or", 0, 0, 0), ("or", 0, -1, 1),
        ):
            self.assert_lays((("push", 9), ("push", left), ("push", right), ("two", sign)), 9, told)

    def test_faults_of_two(self):
        for sign, left, right, word in (
            ("+", 1, "x", "kind"), ("+", "x", 1, "kind"), ("-", "x", "x", "kind"), ("*", "x", 2, "kind"),
            ("/", "x", 0, "kind"), ("/", 1, 0, "nought"), ("rest", 1, 0, "nought"), ("<", 1, "1", "kind"),
            ("and", "x", "x", "kind"), ("or", 1, "x", "kind"), ("+", TOP, 1, "great"), ("-", -TOP, 1, "great"),
            ("*", TOP, -2, "great"), ("/", -TOP, 0, "nought"), ("+", "x" * 100, "x", "long"),
        ):
            self.assert_faults((("push", left), ("push", right), ("two", sign)), word)

    def test_part(self):
        rows = (("push", 9), ("push", "abcde"), ("push", 2), ("push", 3), ("part",))
        self.assert_lays(rows, 9, "bcd")
        for text, first, many, told in (("abc", 1, 0, ""), ("abc", 4, 2, ""), ("abc", 3, 99, "c"), ("", 1, 1, "")):
            self.assert_lays((("push", text), ("push", first), ("push", many), ("part",)), told)
        for text, first, many, word in ((1, 1, 1, "kind"), ("a", "b", 1, "kind"), ("a", 1, "b", "kind"),
                                        ("a", 0, 1, "range"), ("a", -1, 1, "range"), ("a", 1, -1, "range"),
                                        (1, 0, -1, "kind"), ("a", 0, "x", "kind")):
            self.assert_faults((("push", text), ("push", first), ("push", many), ("part",)), word)


class Piles(Rows):
    def test_too_few_for_a_row_ahead_of_any_other_fault_of_it(self):
        for row, needed in ((("cell", "r"), 1), (("cell", "none"), 1), (("fit", "f"), 1), (("fit", "none"), 1),
                            (("one", "not"), 1), (("one", "size"), 1), (("two", "+"), 2), (("two", "/"), 2),
                            (("part",), 3)):
            for few in range(needed):
                for worth in (0, "x"):
                    self.assert_faults((*[("push", worth)] * few, row), "pile")

    def test_the_first_fault_goes_first(self):
        self.assert_faults((("box", "b"), ("two", "+")), "empty")
        self.assert_faults((("two", "+"), ("box", "b")), "pile")
        self.assert_faults((("part",), ("has", "h")), "pile")

    def test_what_is_beneath_stays_on_the_pile(self):
        self.assert_lays((("push", 1), ("push", 2), ("push", 3), ("push", 4), ("two", "-")), 1, 2, -1)
        self.assert_lays((("push", 1), ("push", "ab"), ("push", 1), ("push", 1), ("part",)), 1, "a")

    ACTS = (
        (("set", "a"), 1), (("setcell", "r"), 2), (("setcell", "none"), 2), (("say", 0), 0), (("say", 1), 1),
        (("say", 5), 5), (("ask", "a"), 0), (("go", 5), 0), (("go", 7), 0), (("goby",), 1), (("call", 5), 0),
        (("call", 7), 0), (("back",), 0), (("when", 5), 1), (("when", 7), 1), (("pick", "go", (5, 7)), 1),
        (("pick", "call", (5, 7)), 1), (("loop", "i"), 3), (("again", "i"), 0), (("again", "none"), 0),
        (("data", (1, 2)), 0), (("read", "a"), 0), (("anew", None), 0), (("row", "r"), 1),
        (("fit", "f", "x", ("+", number(1), number(2))), 0), (("trap", 5), 0), (("trap", 7), 0), (("retry",), 0),
        (("pass",), 0), (("stop",), 0), (("end",), 0), (("note", ""), 0),
    )

    def test_too_few_at_the_act(self):
        for parts, needed in self.ACTS:
            for few in range(needed):
                for worth in (0, 2, "x"):
                    self.assert_rows_fault((*[("push", worth)] * few, ("do", *parts)), "pile")

    def test_too_many_left_at_the_act(self):
        for parts, needed in self.ACTS:
            for more in (1, 2, 390):
                for worth in (0, 2, "x"):
                    self.assert_rows_fault((*[("push", worth)] * (needed + more), ("do", *parts)), "pile")

    def test_just_as_many(self):
        for parts, needed in self.ACTS:
            code = code_of(*[("push", 2)] * needed, ("do", *parts))
            told = machine_step(code, PROGRAM, full(), INPUTS)
            self.assertNotEqual(told[9], ("pile", 10), parts)

    def test_ask_without_an_input_and_with_too_many_worths(self):
        self.assert_rows_fault((("push", 1), ("do", "ask", "a")), "pile", asked=3)


def pushed(*worths):
    return tuple(("push", worth) for worth in worths)


class Acts(Rows):
    def test_boxes_and_cells(self):
        self.assert_step((*pushed(-3), ("do", "set", "a")), full(at=20, boxes=(("a", -3), *PARTS["boxes"][1:])))
        rows = (("r", (0, -7, 2)), PARTS["rows"][1])
        self.assert_step((*pushed(1, -7), ("do", "setcell", "r")), full(at=20, rows=rows))
        self.assert_rows_fault((*pushed(-1, 0), ("do", "setcell", "r")), "range")
        self.assert_rows_fault((*pushed("x", 0), ("do", "setcell", "r")), "kind")
        self.assert_rows_fault((*pushed("x", 0), ("do", "setcell", "q")), "norow")
        self.assert_step((*pushed(2), ("do", "row", "r")), full(at=20, rows=(("r", (0, 0)), PARTS["rows"][1])))
        for worth, word in ((0, "range"), (101, "range"), (-1, "range"), ("", "kind")):
            self.assert_rows_fault((*pushed(worth), ("do", "row", "r")), word)

    def test_jumps(self):
        self.assert_step((*pushed(30), ("do", "goby")), full(at=30))
        for worth, word in ((-30, "noline"), (0, "noline"), (TOP, "noline"), ("30", "kind")):
            self.assert_rows_fault((*pushed(worth), ("do", "goby")), word)
        self.assert_step((*pushed(-1), ("do", "when", 30)), full(at=30))
        self.assert_step((*pushed(0), ("do", "when", 7)), full(at=20))
        self.assert_rows_fault((*pushed("0"), ("do", "when", 30)), "kind")
        self.assert_rows_fault((*pushed(1), ("do", "when", 7)), "noline")
        for worth in (0, 3, -1, -2, TOP):
            self.assert_step((*pushed(worth), ("do", "pick", "go", (7, 7))), full(at=20))
        self.assert_step((*pushed(2), ("do", "pick", "go", (7, 30))), full(at=30))
        pile = (*PARTS["pile"], ("call", 10))
        self.assert_step((*pushed(2), ("do", "pick", "call", (7, 30))), full(at=30, pile=pile))
        self.assert_rows_fault((*pushed("1"), ("do", "pick", "go", (30,))), "kind")

    def test_loops_take_their_worths_in_order(self):
        boxes = tuple(sorted((*PARTS["boxes"], ("i", 3))))
        told = full(at=20, boxes=boxes, pile=(("call", 70), ("loop", "i", 10, 1, -2)))
        self.assert_step((*pushed(3, 1, -2), ("do", "loop", "i")), told)
        for worths, word in (((3, 1, 0), "range"), (("x", 1, 0), "kind"), ((3, "x", 0), "kind"), ((3, 1, "x"), "kind"),
                             ((3, 1, 2), "again")):
            self.assert_rows_fault((*pushed(*worths), ("do", "loop", "i")), word)

    def test_says_in_order(self):
        for many in range(6):
            worths = (1, "b", -3, "", 5)[:many]
            self.assert_lays(pushed(*worths), *worths)

    def test_agains_data_and_lines_behind_are_the_programs(self):
        program = ((10, NOTE), (20, NOTE), (30, ("again", "z")), (40, ("data", (8,))), (50, NOTE))
        boxes = (*PARTS["boxes"], ("z", 2))
        self.assert_step((*pushed(2, 1, 1), ("do", "loop", "z")), full(at=40, boxes=boxes), program=program)
        boxes = (*PARTS["boxes"], ("z", 8))
        self.assert_step((("do", "read", "z"),), full(place=(40, 1), at=20, boxes=boxes), program=program, place=(0, 0))

    def test_agains_and_data_of_the_rows_do_not_count(self):
        code = ((10, (*pushed(2, 1, 1), ("do", "loop", "z"))), (20, (("do", "again", "z"),)), (30, (("do", "end"),)))
        program = ((10, NOTE), (20, NOTE), (30, NOTE))
        told = full(stand="faulted", fault=("again", 10))
        self.assertEqual(machine_step(code, program, full(), []), told)
        code = ((10, (("do", "read", "z"),)), (20, (("do", "data", (1,)),)), (30, (("do", "end"),)))
        told = full(stand="faulted", fault=("data", 10), place=(0, 0))
        self.assertEqual(machine_step(code, program, full(place=(0, 0)), []), told)

    def test_data_and_notes_as_acts_do_nothing(self):
        for act in (("do", "data", (1, 2)), ("do", "note", "x")):
            self.assert_step((act,), full(at=20))
            self.assert_rows_fault((("push", 1), act), "pile")

    def test_a_line_that_the_rows_have_and_the_program_has_not(self):
        code = ((10, (("do", "go", 15),)), (15, (("do", "end"),)), (20, (("do", "end"),)))
        program = ((10, ("go", 20)), (20, ("end",)))
        self.assertEqual(machine_step(code, program, full(), []), full(stand="faulted", fault=("noline", 10)))
        code = ((5, (("do", "end"),)), (10, (("do", "note", ""),)), (15, (("do", "end"),)), (20, (("do", "end"),)))
        self.assertEqual(machine_step(code, program, full(), []), full(at=20))


class NotGoing(unittest.TestCase):
    def test_a_state_that_is_not_going_is_told_as_it_is(self):
        for stand, at in (("stopped", 10), ("asks", 10), ("faulted", 10), ("faulted", 0), ("ended", 0)):
            state = full(stand=stand, at=at)
            for act in (("do", "end"), ("do", "go", 5), ("do", "goby")):
                self.assertEqual(machine_step(code_of(act), PROGRAM, state, INPUTS), state)
                self.assertEqual(machine_walk(code_of(act), PROGRAM, INPUTS, state=state), (state, 0))

    def test_of_no_lines(self):
        self.assertEqual(machine_walk((), (), []), (first_state(()), 0))
        self.assertEqual(machine_step((), (), full(at=0), []), full(at=0, stand="ended"))


class MachineWalks(unittest.TestCase):
    def test_as_the_walk(self):
        for inputs in ([], [3], [3, 1], ["x"], [0], [1, 0]):
            for most in (0, 1, 2, 8, 9, 10, 1000):
                told = walk(COUNTS, inputs, most=most)
                self.assertTrue(is_same(machine_walk(made(COUNTS), COUNTS, inputs, most=most), told))
        self.assertEqual(machine_walk(made(COUNTS), COUNTS, [3]), walk(COUNTS, [3]))

    def test_a_thousand_where_none_is_told(self):
        program = ((10, ("go", 10)),)
        self.assertEqual(machine_walk(made(program), program, []), (first_state(program), 1000))
        self.assertEqual(machine_walk(made(program), program, [], most=1234)[1], 1234)

    def test_from_a_told_state_cut_and_walked_on(self):
        code = made(COUNTS)
        whole = machine_walk(code, COUNTS, [3])
        for cut in range(12):
            state, steps = machine_walk(code, COUNTS, [3], most=cut)
            rest, more = machine_walk(code, COUNTS, [3], state=state)
            self.assertEqual((rest, steps + more), whole)
        stopped = gone_on(COUNTS, whole[0], [3, 1])
        self.assertEqual(machine_walk(code, COUNTS, [3, 1], state=stopped)[0][0], "ended")

    def test_by_other_rows(self):
        program = ((10, NOTE), (20, NOTE), (30, NOTE))
        code = ((10, (*pushed(-1), ("do", "set", "a"))), (20, (("box", "a"), ("do", "say", 1))), (30, (("do", "go", 20),)))
        state, steps = machine_walk(code, program, [], most=4)
        self.assertEqual((state[:3], state[11], steps), (("going", 30, (("a", -1),)), ((-1,), (-1,)), 4))

    def test_programs_by_chance_step_by_step(self):
        for seed in range(400):
            chance = Chance(seed)
            program, inputs = chance.program(), chance.inputs()
            code = made(program)
            self.assertTrue(is_code(code))
            states = states_on(program, inputs, most=60)
            for state in states + [full(at=number_of_line, asked=0) for number_of_line, _ in program]:
                self.assertTrue(is_state(program, state), (seed, state))
                told = step(program, state, inputs)
                self.assertTrue(is_same(machine_step(code, program, state, inputs), told), (seed, state))
            self.assertEqual(machine_walk(code, program, inputs, most=60), (states[-1], len(states) - 1))


if __name__ == "__main__":
    unittest.main()
