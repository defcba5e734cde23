"""Points 8 and 18: first states, and whether things are states."""

import copy
import unittest

from numberedlines.errors import LineError, NoLine
from numberedlines.states import first_state, is_state
from numberedlines.words import is_program
from things import HUNDRED_FIGURES, ODD, is_plain, is_same, with_part

PROGRAM = (
    (10, ("set", "a", ("number", 1))),
    (20, ("say", (("box", "a"),))),
    (35, ("go", 20)),
    (9999, ("end",)),
)
ONE_LINE = ((7, ("stop",)),)
STANDS = ("going", "stopped", "asks", "ended", "faulted")
FAULT_WORDS = ("empty", "norow", "kind", "range", "nought", "nofit", "deep", "great", "long",
               "noline", "pile", "back", "again", "data", "trap")
TOP = 10 ** 12
EIGHT_DEEP = ("number", 1)
for _ in range(7):
    EIGHT_DEEP = ("not", EIGHT_DEEP)

STAND, AT, BOXES, ROWS, FITS, PILE, PLACE, TRAP, TRAPPED, FAULT, ASKED, SAID = range(12)

# A state with something in each of its parts.
FULL = (
    "going", 20,
    (("a", 1), ("b", "two")),
    (("a", (0, "one")), ("c", (5,))),
    (("f", "x", ("box", "x")), ("g", "x", ("number", 1))),
    (("call", 10), ("loop", "i", 20, 10, -1)),
    (35, 2), 9999, True, ("kind", 10), 3, ((1, "two"), ()),
)


def begun(stand, at):
    return (stand, at, (), (), (), (), (0, 0), 0, False, None, 0, ())


class FirstStates(unittest.TestCase):
    def assert_told(self, told, state):
        self.assertTrue(is_same(told, state), (told, state))
        self.assertTrue(is_plain(told))

    def test_of_no_lines(self):
        self.assert_told(first_state(()), begun("ended", 0))
        self.assert_told(first_state((), first=None), begun("ended", 0))

    def test_of_one_and_of_many(self):
        self.assert_told(first_state(ONE_LINE), begun("going", 7))
        self.assert_told(first_state(PROGRAM), begun("going", 10))
        self.assert_told(first_state(PROGRAM, first=None), begun("going", 10))
        many = tuple((number, ("end",)) for number in range(3, 103))
        self.assert_told(first_state(many), begun("going", 3))

    def test_at_each_line_told(self):
        for number, _ in PROGRAM:
            self.assert_told(first_state(PROGRAM, first=number), begun("going", number))
        self.assert_told(first_state(((1, ("end",)),), first=1), begun("going", 1))

    def test_it_is_a_state_of_the_program(self):
        for program in ((), ONE_LINE, PROGRAM):
            self.assertIs(is_state(program, first_state(program)), True)

    def assert_refused(self, program, first, number):
        with self.assertRaises(NoLine) as caught:
            first_state(program, first=first)
        self.assertIsInstance(caught.exception, LineError)
        self.assertTrue(is_same(caught.exception.number, number), (first, caught.exception.number))

    def test_numbers_of_no_line(self):
        for first in (0, -1, -10, 1, 9, 11, 15, 34, 36, 9998, 10000, HUNDRED_FIGURES, -HUNDRED_FIGURES):
            self.assert_refused(PROGRAM, first, first)
        for first in (0, 1, 10):
            self.assert_refused((), first, first)

    def test_of_anything_else(self):
        for first in ("10", "", "a", (), (10,), (10, ("end",)), [], [10], {}, {10: 10}, True, False):
            self.assert_refused(PROGRAM, first, None)
            self.assert_refused((), first, None)
        for first in ODD:
            whole = isinstance(first, int) and not isinstance(first, bool)
            self.assert_refused(PROGRAM, first, first if whole else None)

    def test_a_truth_is_no_number_of_a_line(self):
        program = ((1, ("end",)),)
        self.assert_refused(program, True, None)
        self.assert_refused(program, (1,), None)

    def test_handed_in_by_its_name(self):
        self.assertRaises(TypeError, first_state, PROGRAM, 10)

    def test_nothing_is_changed_and_the_same_is_told_again(self):
        before = copy.deepcopy(PROGRAM)
        first = [10]
        self.assert_refused(PROGRAM, first, None)
        self.assertEqual(first, [10])
        self.assertEqual(first_state(PROGRAM), first_state(PROGRAM))
        self.assertTrue(is_same(PROGRAM, before))


class States(unittest.TestCase):
    def assert_state(self, *things, program=PROGRAM):
        for thing in things:
            with self.subTest(thing=repr(thing)[:200]):
                self.assertIs(is_state(program, thing), True)

    def assert_no_state(self, *things, program=PROGRAM):
        for thing in things:
            with self.subTest(thing=repr(thing)[:200]):
                self.assertIs(is_state(program, thing), False)

    def assert_part(self, at, rights, wrongs):
        for base in (FULL, begun("going", 10)):
            self.assert_state(*[with_part(base, at, part) for part in rights])
            self.assert_no_state(*[with_part(base, at, part) for part in wrongs])

    def test_whole_ones(self):
        self.assertTrue(is_program(PROGRAM))
        self.assert_state(FULL, begun("going", 10), begun("ended", 0), begun("stopped", 35))

    def test_each_part_of_other_kinds(self):
        # What among the odd things is right in a part all the same.
        right = {TRAPPED: (True, False), ASKED: (HUNDRED_FIGURES,), SAID: (((), ()),)}
        for at in range(12):
            for part in ODD:
                if any(is_same(part, one) for one in right.get(at, ())):
                    self.assert_state(with_part(FULL, at, part))
                else:
                    self.assert_no_state(with_part(FULL, at, part))

    def test_one_part_too_few_or_too_many(self):
        self.assert_no_state(FULL[:-1], FULL[1:], FULL + (0,), FULL + (None,), (), FULL + FULL, (FULL,))

    def test_a_list_in_the_place_of_a_tuple_at_any_depth(self):
        self.assert_no_state(list(FULL))
        for thing in with_lists(FULL):
            self.assert_no_state(thing)

    def test_stands(self):
        for stand in STANDS:
            self.assert_state(begun(stand, 0 if stand == "ended" else 20))
        self.assert_part(STAND, ("going", "stopped", "asks", "faulted"),
                         ("", "Going", "run", "end", None, 0, True, ("going",), ["going"], {"going": 1}))

    def test_at(self):
        self.assert_part(AT, (10, 20, 35, 9999), (
            0, -1, 1, 9, 11, 34, 10000, HUNDRED_FIGURES, True, False, None, "10", (10,), [10], {10: 10}))

    def test_at_0(self):
        for stand in STANDS:
            if stand in ("ended", "faulted"):
                self.assert_state(begun(stand, 0))
            else:
                self.assert_no_state(begun(stand, 0))
            self.assert_state(begun(stand, 0), program=())
            self.assert_no_state(begun(stand, False), begun(stand, 10), begun(stand, None), program=())
        self.assert_no_state(begun("ended", 10), begun("ended", 9999), begun("ended", 11), begun("ended", False))
        self.assert_no_state(begun("faulted", 11), begun("faulted", False))
        self.assert_state(begun("faulted", 10))

    def test_a_truth_is_no_number_of_a_line(self):
        program = ((1, ("end",)),)
        self.assert_state(begun("going", 1), program=program)
        self.assert_no_state(begun("going", True), program=program)

    def test_of_another_program(self):
        self.assert_no_state(FULL, begun("going", 10), program=ONE_LINE)
        self.assert_no_state(FULL, begun("going", 10), program=())
        self.assert_state(with_part(FULL, AT, 7), begun("ended", 0), program=ONE_LINE)

    def test_boxes(self):
        self.assert_part(BOXES, (
            (), (("a", 0),), (("a", ""),), (("a", TOP), ("b", -TOP)), (("eightlet", "x" * 100),),
            (("a", 1), ("aa", 1), ("b", 1)), (("ab", 1), ("b", 1)),
        ), (
            (("a", TOP + 1),), (("a", -TOP - 1),), (("a", "x" * 101),), (("a", '"'),), (("a", "\n"),), (("a", True),),
            (("a", None),), (("a", (1,)),), (("a", [1]),), (("ninechars", 1),), (("", 1),), (("A", 1),), (("go", 1),),
            ((1, "a"),), (("a",),), (("a", 1, 1),), ("a", 1), {"a": 1}, (["a", 1],), [("a", 1)], None, "a",
            (("b", 1), ("a", 1)), (("a", 1), ("a", 1)), (("a", 1), ("a", 2)), (("a", 1), ("b", 1), ("a", 1)),
            ((["a"], 1),), (({}, 1),),
        ))

    def test_rows(self):
        self.assert_part(ROWS, (
            (), (("a", (0,)),), (("a", (0,) * 100),), (("a", ("", TOP, -TOP)),), (("a", (1,)), ("b", (1,))),
        ), (
            (("a", ()),), (("a", (0,) * 101),), (("a", [0]),), (("a", 0),), (("a", "text"),), (("a", (True,)),),
            (("a", (0, TOP + 1)),), (("a", (0, None)),), (("a", (0, (0,))),), (("go", (0,)),), ((1, (0,)),),
            (("a",),), (("a", (0,), (0,)),), (["a", (0,)],), [("a", (0,))], {"a": (0,)}, None,
            (("b", (1,)), ("a", (1,))), (("a", (1,)), ("a", (1,))), (("a", (1,)), ("a", (2,))), (("a", {0: 0}),),
        ))

    def test_fits(self):
        one = ("number", 1)
        self.assert_part(FITS, (
            (), (("a", "a", one),), (("a", "b", EIGHT_DEEP),), (("a", "x", one), ("b", "x", one)),
        ), (
            (("a", "b", ("not", EIGHT_DEEP)),), (("a", "b", 1),), (("a", "b", ["number", 1]),), (("a", "b", ()),),
            (("a", "b", ("number", True)),), (("a", "b", ("number", -1)),), (("a", "b", None),), (("go", "b", one),),
            (("a", "by", one),), (("a", 1, one),), ((1, "a", one),), (("a", one),), (("a", ("b", one)),),
            (("a", "b", one, one),), (["a", "b", one],), [("a", "b", one)], {"a": ("b", one)}, None,
            (("b", "x", one), ("a", "x", one)), (("a", "x", one), ("a", "x", one)), (("a", "x", one), ("a", "y", one)),
        ))

    def test_piles(self):
        call = ("call", 1)
        loop = ("loop", "i", 9999, TOP, -TOP)
        self.assert_part(PILE, (
            (), (call,), (loop,), (call, call, loop, loop), (call,) * 50, (loop,) * 50, (("call", 9999), ("call", 77)),
            (("loop", "i", 1, -TOP, TOP),), (("loop", "i", 1, 0, 1),), (("loop", "i", 1, 0, -1),),
        ), (
            (call,) * 51, (loop,) * 51, (call,) * 25 + (loop,) * 26, [call], (["call", 1],), (call, None), {}, None, call,
            (("call", 0),), (("call", 10000),), (("call", -1),), (("call", True),), (("call", None),), (("call", "1"),),
            (("call",),), (("call", 1, 1),), (("back", 1),), ((["call"], 1),), ((1, "call"),), ((),),
            (("call", "i", 1, 1, 1),), (("loop", 1),), (list(loop),), (loop[:-1],), (loop + (1,),), loop,
        ) + tuple((with_part(loop, 1, name),) for name in ("", "ninechars", "I", "to", 1, None, ["i"]))
          + tuple((with_part(loop, 2, number),) for number in (0, 10000, -1, True, None, "1", (1,)))
          + tuple((with_part(loop, at, by),) for at in (3, 4) for by in (TOP + 1, -TOP - 1, True, False, None, "1", (1,)))
          + ((with_part(loop, 4, 0),), (with_part(loop, 0, "loops"),), (with_part(loop, 0, ["loop"]),)))

    def test_places(self):
        self.assert_part(PLACE, ((0, 0), (0, 5), (1, 0), (10, 6), (11, 7), (9999, HUNDRED_FIGURES)), (
            (-1, 0), (10000, 0), (0, -1), (True, 0), (0, False), (0, True), (False, 0), (None, 0), (0, None), ("0", 0),
            (0, "0"), (0,), (0, 0, 0), (), [0, 0], {0: 0}, 0, None, ((0, 0),), ([0], 0), (0, (0,))))

    def test_traps(self):
        self.assert_part(TRAP, (0, 1, 10, 11, 9999), (
            -1, 10000, HUNDRED_FIGURES, True, False, None, "0", (10,), [10], {10: 10}))

    def test_trapped(self):
        self.assert_part(TRAPPED, (True, False), (0, 1, None, "", "True", (), (True,), [], {}))

    def test_faults(self):
        self.assert_part(FAULT, (None, ("kind", 1), ("kind", 11), ("kind", 9999)) + tuple(
            (word, 10) for word in FAULT_WORDS
        ), (
            ("kind", 0), ("kind", 10000), ("kind", -1), ("kind", True), ("kind", None), ("kind", "10"), ("kind",),
            ("kind", 10, 10), (10, "kind"), ["kind", 10], {"kind": 10}, "kind", False, 0, (), (None, 10), ("", 10),
            ("Kind", 10), ("fault", 10), ("ended", 10), ("noline ", 10), (["kind"], 10), (("kind",), 10), ({}, 10),
        ))

    def test_asked(self):
        self.assert_part(ASKED, (0, 1, 1000, 1001, HUNDRED_FIGURES), (
            -1, -HUNDRED_FIGURES, True, False, None, "0", (0,), [0], {}))

    def test_said(self):
        self.assert_part(SAID, (
            (), ((),), ((), ()), ((1,),), ((1, "two", 3, "", -TOP),), ((1,) * 5, ("a",) * 5), tuple([(1,)] * 500),
        ), (
            ((1,) * 6,), ((1,), (1,) * 6), (1,), ("a",), ("",), ([1],), ([],), [(1,)], [], {}, None, "", ((True,),),
            ((None,),), ((TOP + 1,),), (('"',),), (((1,),),), (([],),), ({},),
        ))

    def test_of_anything(self):
        self.assert_no_state(*ODD)
        self.assert_no_state(None, 0, 1, -1, "", "going", (), ("going",), ("going", 10), ("",) * 12, ((),) * 12,
                             (0,) * 12, (None,) * 12, [None] * 12, {at: part for at, part in enumerate(FULL)})
        for thing in ODD:
            self.assert_no_state(thing, program=())

    def test_nothing_is_changed_and_the_same_is_told_again(self):
        for thing in (FULL, list(FULL), with_part(FULL, BOXES, [["a", 1]]), {"a": [1]}):
            before = copy.deepcopy((PROGRAM, thing))
            self.assertIs(is_state(PROGRAM, thing), is_state(PROGRAM, thing))
            self.assertTrue(is_same((PROGRAM, thing), before))


def with_lists(thing):
    """The tuple with each one of the tuples within, at any depth, made a list."""
    made = []
    for at, part in enumerate(thing):
        if isinstance(part, tuple):
            made.append(with_part(thing, at, list(part)))
            made.extend(with_part(thing, at, inner) for inner in with_lists(part))
    return made


if __name__ == "__main__":
    unittest.main()
