"""What the tests of steps share: states with something in every part, and what a step must tell."""

import unittest

from numberedlines.code import made
from numberedlines.machine import machine_step
from numberedlines.states import is_state
from numberedlines.walk import step
from numberedlines.words import is_program
from things import is_plain, is_same

NOTE = ("note", "")
PARTS = {
    "stand": "going",
    "at": 10,
    "boxes": (("a", 1), ("k", 7), ("t", "two")),
    "rows": (("r", (0, "one", 2)), ("s", (5,))),
    "fits": (("f", "x", ("box", "x")), ("g", "k", ("+", ("box", "a"), ("box", "k")))),
    "pile": (("call", 70), ("loop", "i", 80, 10, -1)),
    "place": (85, 1),
    "trap": 0,
    "trapped": False,
    "fault": ("great", 95),
    "asked": 2,
    "said": ((1, "two"), ()),
}
INPUTS = [11, "in", 33]


def number(n):
    return ("number", n)


def text(t):
    return ("text", t)


def box(name):
    return ("box", name)


def below(n):
    """An expression that comes to a number beneath 0."""
    return ("-", number(0), number(n))


NOUGHT = ("/", number(1), number(0))

# A program that asks, loops, says and stops amid it.
COUNTS = (
    (10, ("ask", "n")),
    (20, ("loop", "i", number(1), box("n"), number(1))),
    (30, ("say", (box("i"), ("*", box("i"), box("i"))))),
    (40, ("again", "i")),
    (50, ("stop",)),
    (60, ("ask", "m")),
    (70, ("say", (("/", box("n"), box("m")),))),
)


def full(**parts):
    """A going state at line 10 with something in every part, but for the parts that are named."""
    return tuple({**PARTS, **parts}.values())


def amid(statement):
    """A program in which the statement stands at 10, with lines ahead and behind."""
    return ((5, NOTE), (10, statement), (20, NOTE), (30, NOTE), (85, ("data", (1, 2))), (99, NOTE))


def last(statement):
    """A program whose last line is the statement, at 10."""
    return ((5, NOTE), (10, statement))


class Steps(unittest.TestCase):
    def assert_step(self, program, state, told, inputs=INPUTS):
        """The step tells just that, each time, also by made rows, and changes nothing that it is handed."""
        self.assertTrue(is_program(program), program)
        self.assertTrue(is_state(program, state), state)
        inputs = list(inputs)
        before = repr((program, state, inputs))
        for _ in range(2):
            answer = step(program, state, inputs)
            self.assertTrue(is_same(answer, told), (answer, told))
            self.assertTrue(is_plain(answer))
            self.assertTrue(is_state(program, answer), answer)
            by_rows = machine_step(made(program), program, state, inputs)
            self.assertTrue(is_same(by_rows, told), (by_rows, told))
            self.assertTrue(is_plain(by_rows))
        self.assertEqual(repr((program, state, inputs)), before)

    def assert_goes_on(self, statement, ahead=None, inputs=INPUTS, **changed):
        """It changes just that, and is then at the line behind, or ended at 0."""
        ahead = {} if ahead is None else ahead
        behind = {**ahead, **changed}
        self.assert_step(amid(statement), full(**ahead), full(**{**behind, "at": 20}), inputs)
        self.assert_step(last(statement), full(**ahead), full(**{**behind, "stand": "ended", "at": 0}), inputs)

    def assert_fault(self, statement, word, inputs=INPUTS, programs=None, **ahead):
        """It comes to that fault, and nothing else of it is done, whatever the trap."""
        for program in (amid(statement), last(statement)) if programs is None else programs:
            self.assert_fault_at(program, word, inputs, ahead)

    def assert_fault_at(self, program, word, inputs, ahead):
        at = ahead.get("at", 10)
        there = program[0][0]
        fault = (word, at)

        def assert_told(trap, was_trapped, **told):
            state = {**ahead, "trap": trap, "trapped": was_trapped}
            self.assert_step(program, full(**state), full(**{**state, "fault": fault, **told}), inputs)

        for trapped in (False, True):
            assert_told(0, trapped, stand="faulted", at=at)
            assert_told(there + 1, trapped, stand="faulted", at=at)
        assert_told(there, False, stand="going", at=there, trapped=True)
        assert_told(at, False, stand="going", at=at, trapped=True)
        assert_told(there, True, stand="faulted", at=at)
