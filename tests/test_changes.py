"""Points 17 and 18: lines changed amid a run."""

import unittest

from numberedlines.changes import changed, changed_state, is_change
from numberedlines.errors import LineError, NoChange, NoLine, TooMany
from numberedlines.states import first_state, is_state
from numberedlines.walk import walk
from numberedlines.words import is_program
from programs import Chance
from stepping import NOTE, box, full, number
from things import HUNDRED_FIGURES, ODD, is_plain, is_same

PROGRAM = ((10, ("end",)), (20, ("stop",)), (30, NOTE))
HUNDRED = tuple((at + 1, NOTE) for at in range(100))
STANDS = ("going", "stopped", "asks", "faulted")


def bare(**parts):
    """A full state without frames."""
    return full(**{"pile": (), **parts})


class IsChange(unittest.TestCase):
    def assert_is(self, thing, told):
        before = repr(thing)
        self.assertIs(is_change(thing), told, repr(thing)[:200])
        self.assertEqual(repr(thing), before)

    def test_right_ones(self):
        for line in (*PROGRAM, (1, ("set", "a", number(1))), (9999, ("pick", box("a"), "go", (1, 2)))):
            self.assert_is(("put", line), True)
        for at in (0, 1, 10, 9999, 10000, -1, HUNDRED_FIGURES, -HUNDRED_FIGURES):
            self.assert_is(("strike", at), True)

    def test_wrong_lines_to_put(self):
        for line in ((0, NOTE), (10000, NOTE), (True, NOTE), (10,), (10, NOTE, NOTE), [10, NOTE], (10, list(NOTE)), 10,
                     NOTE, None, (), (10, ("go", True)), (10, ("say", [])), (10, ("nothing",)), ((10, NOTE),), "10 end",
                     {10: NOTE}, ("10", NOTE)):
            self.assert_is(("put", line), False)

    def test_wrong_numbers_to_strike(self):
        for at in (True, False, None, "10", (10,), [10], {}, (10, NOTE), ""):
            self.assert_is(("strike", at), False)

    def test_wrong_forms(self):
        for thing in (("put",), ("strike",), ("put", (10, NOTE), 1), ("strike", 10, 10), ("strike", 10, None),
                      ["put", (10, NOTE)], ["strike", 10], ("Put", (10, NOTE)), ("strikes", 10), ("set", 10), (10, "strike"),
                      ((10, NOTE), "put"), ("put", 10), ("strike", (10, NOTE)), (("strike",), 10), (["strike"], 10),
                      ({}, 10), (None, 10), (True, 10), {"strike": 10}, "strike", "put", None, 0, 1, ()):
            self.assert_is(thing, False)

    def test_of_anything(self):
        for thing in ODD:
            self.assert_is(thing, False)
            self.assert_is(("put", thing), False)
            self.assert_is((thing, 10), False)
            self.assert_is(("strike", 10, thing), False)
            if not isinstance(thing, int) or isinstance(thing, bool):
                self.assert_is(("strike", thing), False)


class Changed(unittest.TestCase):
    def assert_told(self, program, change, told):
        before = repr((program, change))
        for _ in range(2):
            answer = changed(program, change)
            self.assertTrue(is_same(answer, told), (answer, told))
            self.assertTrue(is_plain(answer))
            self.assertTrue(is_program(answer))
        self.assertEqual(repr((program, change)), before)

    def test_put_in(self):
        for at, place in ((1, 0), (9, 0), (11, 1), (25, 2), (31, 3), (9999, 3)):
            line = (at, ("back",))
            self.assert_told(PROGRAM, ("put", line), (*PROGRAM[:place], line, *PROGRAM[place:]))
        self.assert_told((), ("put", (7, NOTE)), ((7, NOTE),))

    def test_put_anew(self):
        for place, at in ((0, 10), (1, 20), (2, 30)):
            line = (at, ("back",))
            self.assert_told(PROGRAM, ("put", line), (*PROGRAM[:place], line, *PROGRAM[place + 1:]))

    def test_put_just_the_same(self):
        for line in PROGRAM:
            self.assert_told(PROGRAM, ("put", line), PROGRAM)

    def test_strike(self):
        for place, line in enumerate(PROGRAM):
            self.assert_told(PROGRAM, ("strike", line[0]), PROGRAM[:place] + PROGRAM[place + 1:])
        self.assert_told(PROGRAM[:1], ("strike", 10), ())

    def test_a_hundred_lines(self):
        self.assert_told(HUNDRED[:99], ("put", (100, NOTE)), HUNDRED)
        self.assert_told(HUNDRED, ("put", (50, ("end",))), (*HUNDRED[:49], (50, ("end",)), *HUNDRED[50:]))
        self.assert_told(HUNDRED, ("put", (50, NOTE)), HUNDRED)
        self.assert_told(HUNDRED, ("strike", 100), HUNDRED[:99])


class Refused(unittest.TestCase):
    def assert_refused(self, error, program, change):
        """Both are refused alike, whatever the state; told is the error."""
        before = repr((program, change))
        errors = []
        for ask in (lambda: changed(program, change), lambda: changed_state(program, first_state(program), change)):
            with self.assertRaises(error) as caught:
                ask()
            self.assertIsInstance(caught.exception, LineError)
            errors.append(caught.exception)
        self.assertEqual(repr((program, change)), before)
        return errors

    def test_what_is_no_change(self):
        for program in (PROGRAM, (), HUNDRED):
            for change in (*ODD, None, 10, "strike", ("strike", True), ("strike", "10"), ("put", (10, ("go", 0))),
                           ["strike", 10], ("strike", 10, 10), ("put", (0, NOTE)), ("put", 10), (), ("strike",)):
                self.assert_refused(NoChange, program, change)

    def test_no_such_line_to_strike(self):
        for program in (PROGRAM, (), HUNDRED):
            for at in (0, -1, -10, 101, 9999, 10000, HUNDRED_FIGURES, -HUNDRED_FIGURES):
                for error in self.assert_refused(NoLine, program, ("strike", at)):
                    self.assertTrue(is_same(error.number, at))

    def test_more_than_a_hundred(self):
        for at in (101, 9999):
            self.assert_refused(TooMany, HUNDRED, ("put", (at, NOTE)))
        spaced = tuple((2 * at + 2, NOTE) for at in range(100))
        for at in (1, 101, 201):
            self.assert_refused(TooMany, spaced, ("put", (at, NOTE)))


class ChangedState(unittest.TestCase):
    def assert_told(self, state, change, told, program=PROGRAM):
        self.assertTrue(is_state(program, state), state)
        before = repr((program, state, change))
        for _ in range(2):
            answer = changed_state(program, state, change)
            self.assertTrue(is_same(answer, told), (answer, told))
            self.assertTrue(is_plain(answer))
            self.assertTrue(is_state(changed(program, change), answer), answer)
        self.assertEqual(repr((program, state, change)), before)

    def test_all_else_stays(self):
        for at in (10, 20, 30):
            for stand in STANDS:
                for change in (("put", (20, NOTE)), ("put", (25, NOTE)), ("put", (at, ("back",)))):
                    state = full(at=at, stand=stand, trap=20, trapped=True)
                    self.assert_told(state, change, state)
        state = full(stand="ended", at=0, trap=77)
        for change in (("put", (20, NOTE)), ("put", (25, NOTE)), ("put", (1, NOTE)), ("strike", 20), ("strike", 30)):
            self.assert_told(state, change, state)
            faulted = full(stand="faulted", at=0)
            self.assert_told(faulted, change, faulted)

    def test_place_and_fault_stay_though_their_line_is_struck(self):
        state = bare(at=10, place=(20, 1), fault=("kind", 20))
        self.assert_told(state, ("strike", 20), state)
        self.assert_told(state, ("put", (20, NOTE)), state)

    def test_frames_are_dropped_from_the_lowest_of_that_number_on(self):
        a, b, c = ("call", 10), ("loop", "i", 20, 9, 1), ("loop", "k", 30, 9, 1)
        for change in (("put", (20, ("back",))), ("strike", 20)):
            for pile, left in (
                ((), ()), ((a,), (a,)), ((b,), ()), ((a, b), (a,)), ((b, a), ()), ((a, b, c), (a,)), ((a, c, b), (a, c)),
                ((a, b, c, b), (a,)), ((a, ("call", 20), b), (a,)), ((c, a, c), (c, a, c)),
                (((a,) * 49 + (b,)), (a,) * 49), ((b,) + (a,) * 49, ()),
                ((("loop", "i", 30, 20, 20),), (("loop", "i", 30, 20, 20),)),
            ):
                self.assert_told(full(pile=pile), change, full(pile=left))

    def test_frames_of_a_line_that_is_put_in(self):
        pile = (("call", 10), ("call", 25), ("call", 10))
        self.assert_told(full(pile=pile), ("put", (25, NOTE)), full(pile=pile[:1]))
        self.assert_told(full(pile=pile), ("put", (26, NOTE)), full(pile=pile))

    def test_put_just_the_same(self):
        for line in PROGRAM:
            state = full(at=line[0], pile=(("call", line[0]), ("loop", "i", line[0], 9, 1)), trap=line[0])
            self.assert_told(state, ("put", line), state)

    def test_the_trap_of_the_struck_line(self):
        for trapped in (False, True):
            for trap, left in ((20, 0), (10, 10), (30, 30), (0, 0), (77, 77)):
                self.assert_told(bare(trap=trap, trapped=trapped), ("strike", 20), bare(trap=left, trapped=trapped))
                state = bare(trap=trap, trapped=trapped)
                self.assert_told(state, ("put", (20, NOTE)), state)
        self.assert_told(bare(trap=77), ("put", (77, NOTE)), bare(trap=77))

    def test_at_a_struck_line_with_a_line_behind(self):
        for stand in STANDS:
            self.assert_told(bare(stand=stand, at=10), ("strike", 10), bare(stand=stand, at=20))
            self.assert_told(bare(stand=stand, at=20), ("strike", 20), bare(stand=stand, at=30))

    def test_at_a_struck_line_with_none_behind(self):
        for stand in ("going", "stopped", "asks"):
            self.assert_told(bare(stand=stand, at=30), ("strike", 30), bare(stand="ended", at=0))
            self.assert_told(bare(stand=stand, at=10), ("strike", 10), bare(stand="ended", at=0), program=PROGRAM[:1])
        self.assert_told(bare(stand="faulted", at=30), ("strike", 30), bare(stand="faulted", at=0))
        self.assert_told(bare(stand="faulted", at=10), ("strike", 10), bare(stand="faulted", at=0), program=PROGRAM[:1])

    def test_at_another_line_than_the_struck_one(self):
        for stand in STANDS:
            for at in (10, 30):
                self.assert_told(bare(stand=stand, at=at), ("strike", 20), bare(stand=stand, at=at))

    def test_of_no_lines_behind_a_put(self):
        for stand in ("going", "stopped", "asks", "ended"):
            self.assert_told(bare(stand=stand, at=0), ("put", (5, NOTE)), bare(stand="ended", at=0), program=())
        self.assert_told(bare(stand="faulted", at=0), ("put", (5, NOTE)), bare(stand="faulted", at=0), program=())
        pile = (("call", 4), ("call", 5), ("call", 6))
        self.assert_told(full(stand="ended", at=0, pile=pile), ("put", (5, NOTE)),
                         full(stand="ended", at=0, pile=pile[:1]), program=())

    def test_all_at_once(self):
        state = full(at=30, pile=(("call", 20), ("call", 30)), trap=30, trapped=True)
        self.assert_told(state, ("strike", 30), full(at=0, stand="ended", pile=(("call", 20),), trapped=True))


class GoesOnAsTheWalk(unittest.TestCase):
    def test_a_line_put_in_behind_a_calls_line_is_come_back_to(self):
        program = ((10, ("call", 50)), (20, ("end",)), (50, ("stop",)), (60, ("back",)))
        state, _ = walk(program, [])
        self.assertEqual(state[:2], ("stopped", 60))
        change = ("put", (15, ("say", (number(1),))))
        state = changed_state(program, ("going",) + state[1:], change)
        state, _ = walk(changed(program, change), [], state=state)
        self.assertEqual((state[0], state[11]), ("ended", ((1,),)))

    def test_a_loop_whose_own_line_is_put_anew_is_closed_with_those_within(self):
        program = ((10, ("loop", "i", number(1), number(9), number(1))), (20, ("loop", "k", number(1), number(9), number(1))),
                   (30, ("again", "k")), (40, ("again", "i")))
        state, _ = walk(program, [], most=2)
        self.assertEqual([frame[1] for frame in state[5]], ["i", "k"])
        inner = ("put", (20, ("loop", "k", number(1), number(3), number(1))))
        outer = ("put", (10, ("loop", "i", number(1), number(3), number(1))))
        told = changed_state(program, state, inner)
        self.assertEqual([frame[1] for frame in told[5]], ["i"])
        self.assertEqual(walk(changed(program, inner), [], state=told)[0][9], ("again", 30))
        self.assertEqual(changed_state(program, state, outer)[5], ())

    def test_data_is_read_on_from_the_same_place(self):
        program = ((10, ("read", "a")), (20, ("read", "b")), (30, ("data", (1, 2))))
        state, _ = walk(program, [], most=1)
        change = ("put", (30, ("data", (7, 8, 9))))
        state, _ = walk(changed(program, change), [], state=changed_state(program, state, change))
        self.assertEqual(state[2], (("a", 1), ("b", 8)))

    def test_by_chance_it_is_a_state_of_the_changed_program(self):
        for seed in range(200):
            chance = Chance(seed)
            program, inputs = chance.program(), chance.inputs()
            state, _ = walk(program, inputs, most=chance.random.randint(0, 30))
            for _ in range(12):
                if program and chance.random.random() < 0.6:
                    change = ("strike", chance.one_of(program)[0])
                else:
                    change = ("put", (chance.random.randint(1, 200), chance.statement()))
                state = changed_state(program, state, change)
                program = changed(program, change)
                self.assertTrue(is_program(program))
                self.assertTrue(is_state(program, state), (seed, program, state))
                state, _ = walk(program, inputs, state=state, most=2)


if __name__ == "__main__":
    unittest.main()
