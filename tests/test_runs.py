"""Points 23 and 24: runs, their deeds, and deeds taken back."""

import unittest

from numberedlines import runs
from numberedlines.changes import changed, changed_state
from numberedlines.errors import LineError, NoBack, NoChange, NoLine, NoProgram, NoTarget, NoWorth, Reckoned, TooGreat, TooMany
from numberedlines.renumber import led_state, renumbered
from numberedlines.runs import Run
from numberedlines.states import first_state
from numberedlines.texts import show_program
from numberedlines.walk import gone_on, step, walk
from programs import Chance
from stepping import COUNTS, NOTE, box, number
from things import ODD, is_plain, is_same

A = box("a")
END = ("end",)
ENDLESS = ((10, ("go", 10)),)
FAULTY = ((10, ("say", (A,))), (20, NOTE))
# Calls, loops and a trap, a fault and a stop amid it.
DEEP = (
    (10, ("trap", 90)),
    (20, ("call", 50)),
    (30, ("say", (number(1),))),
    (40, END),
    (50, ("loop", "i", number(1), number(2), number(1))),
    (60, ("stop",)),
    (70, ("again", "i")),
    (80, ("back",)),
    (90, ("stop",)),
    (95, ("pass",)),
)
HUNDRED = tuple((at, NOTE) for at in range(1, 101))


def tells(run):
    """All that a run tells."""
    return (run.program(), run.state(), run.inputs(), run.said(), run.boxes(), run.pile(), run.at(), run.busy, len(run),
            str(run), repr(run), [run.has(at) for at, _ in run.program()])


class Runs(unittest.TestCase):
    def assert_stands(self, run, program, state, inputs):
        told = (program, state, list(inputs), list(state[11]), dict(state[2]), state[5], state[1], False, len(program),
                show_program(program), f"Run({len(program)} lines, {state[0]} at {state[1]})", [True] * len(program))
        self.assertTrue(is_same(tells(run), told), (tells(run), told))
        self.assertTrue(is_plain(tells(run)))
        self.assertEqual(list(run.boxes()), sorted(run.boxes()))

    def assert_refused(self, run, error, fields, deed, *things, **how):
        """The deed is refused so, and all is as it was."""
        before, deeds = tells(run), count_deeds(run)
        for _ in range(2):
            with self.assertRaises(error) as caught:
                deed(*things, **how)
            self.assertIs(type(caught.exception), error)
            self.assertTrue(is_same(vars(caught.exception), fields), (vars(caught.exception), fields))
            self.assertTrue(is_same(tells(run), before))
            self.assertIs(run.busy, False)
        self.assertEqual(count_deeds(run), deeds)

    def assert_taken_back(self, run, before):
        """The last deed, taken back, leaves the run as it stood ahead of it."""
        self.assertIsNone(run.back())
        self.assertTrue(is_same(tells(run), before))


def count_deeds(run):
    """How many deeds can be taken back, told by a twin."""
    twin, many = run.twin(), 0
    while True:
        try:
            twin.back()
        except NoBack:
            return many
        many += 1


class Made(Runs):
    def test_a_new_run(self):
        for program in ((), COUNTS, DEEP, HUNDRED):
            run = Run(program)
            self.assert_stands(run, program, first_state(program), [])
            self.assertIs(run.busy, False)
            self.assertEqual(count_deeds(run), 0)

    def test_of_no_program(self):
        for thing in (*ODD, None, "10 end", 10, [], list(COUNTS), (NOTE,), (10, NOTE), ((10, NOTE), (10, NOTE)), ((0, NOTE),),
                      ((True, NOTE),), (*HUNDRED, (101, NOTE)), Run(()), ((10, ("go", True)),)):
            with self.assertRaises(NoProgram) as caught:
                Run(thing)
            self.assertEqual(vars(caught.exception), {})
            self.assertIsInstance(caught.exception, LineError)

    def test_methods_stand_in_the_class_itself(self):
        for name in ("step", "go", "give", "begin", "put", "strike", "renumber", "back", "has", "program", "state", "inputs",
                     "said", "boxes", "pile", "at", "twin", "__len__", "__eq__", "__str__", "__repr__", "__init__"):
            self.assertIn(name, vars(Run))


class Walking(Runs):
    def test_step_by_step(self):
        run, state = Run(COUNTS), first_state(COUNTS)
        run.give(2)
        for _ in range(7):
            state = step(COUNTS, state, [2])
            self.assertTrue(is_same(run.step(), 1))
            self.assert_stands(run, COUNTS, state, [2])
        self.assertEqual(run.state()[0], "stopped")

    def test_step_of_one_that_is_not_going(self):
        for program, stand in (((), "ended"), (((10, END),), "ended"), (((10, ("stop",)), (20, NOTE)), "stopped"),
                               (((10, ("ask", "a")),), "asks"), (FAULTY, "faulted")):
            run = Run(program)
            run.go()
            self.assertEqual(run.state()[0], stand)
            before, deeds = tells(run), count_deeds(run)
            for _ in range(3):
                self.assertTrue(is_same(run.step(), 0))
                self.assertTrue(is_same(tells(run), before))
            # Each is a deed, though nothing changed.
            self.assertEqual(count_deeds(run), deeds + 3)

    def test_go_of_each_stand(self):
        run = Run(COUNTS)
        self.assertTrue(is_same(run.go(), 1))
        self.assertEqual(run.state()[:2], ("asks", 10))
        self.assertTrue(is_same(run.go(), 0))
        run.give(3)
        self.assertTrue(is_same(run.go(), 9))
        self.assertEqual(run.state()[:2], ("stopped", 60))
        self.assertTrue(is_same(run.go(), 1))
        self.assertEqual(run.state()[:2], ("asks", 60))
        run.give(0)
        self.assertTrue(is_same(run.go(), 2))
        self.assertEqual(run.state()[:2], ("faulted", 70))
        # A faulted line is tried again.
        self.assertTrue(is_same(run.go(), 1))
        self.assertEqual(run.state()[:2], ("faulted", 70))
        run.put((70, ("say", (box("n"),))))
        self.assertTrue(is_same(run.go(), 1))
        self.assertEqual(run.state()[:2], ("ended", 0))
        self.assertEqual(run.said(), [(1, 1), (2, 4), (3, 9), (3,)])
        self.assertTrue(is_same(run.go(), 0))
        self.assertEqual(run.state()[:2], ("ended", 0))

    def test_most(self):
        for most in (0, 1, 2, 8, 9, 10, 5000):
            run = Run(COUNTS)
            run.give(3)
            self.assertTrue(is_same(run.go(most=most), min(most, 9)))
            self.assert_stands(run, COUNTS, walk(COUNTS, [3], most=most)[0], [3])

    def test_most_none_goes_on_but_does_no_step(self):
        run = Run(((10, ("stop",)), (20, NOTE), (30, NOTE)))
        run.go()
        self.assertEqual(run.state()[:2], ("stopped", 20))
        self.assertTrue(is_same(run.go(most=0), 0))
        self.assertEqual(run.state()[:2], ("going", 20))
        self.assertTrue(is_same(run.go(most=1), 1))
        self.assertEqual(run.state()[:2], ("going", 30))

    def test_a_thousand_steps_where_none_is_told(self):
        run = Run(ENDLESS)
        self.assertEqual(run.go(), 1000)
        self.assertEqual(run.go(most=1001), 1001)
        self.assertEqual(run.state()[:2], ("going", 10))

    def test_asking(self):
        run = Run(((10, ("ask", "a")), (20, ("ask", "b")), (30, ("go", 10))))
        for worth in (1, "x"):
            run.give(worth)
        run.go()
        self.assertEqual((run.state()[:2], run.boxes(), run.state()[10]), (("asks", 10), {"a": 1, "b": "x"}, 2))
        run.give(-5)
        self.assertEqual(run.state()[:2], ("asks", 10))
        run.go()
        self.assertEqual((run.state()[:2], run.boxes()), (("asks", 20), {"a": -5, "b": "x"}))


class Giving(Runs):
    def test_inputs_in_their_order(self):
        run = Run(COUNTS)
        told = [0, "", 10 ** 12, -10 ** 12, "x" * 100, 0]
        for at, worth in enumerate(told):
            self.assertIsNone(run.give(worth))
            self.assert_stands(run, COUNTS, first_state(COUNTS), told[:at + 1])

    def test_of_no_worth(self):
        run = Run(COUNTS)
        run.give(1)
        others = [thing for thing in ODD if thing != "Capital"]
        for thing in (*others, None, 10 ** 12 + 1, -10 ** 12 - 1, 'a"b', "x" * 101, (1,), [1], (), "\n"):
            self.assert_refused(run, NoWorth, {}, run.give, thing)

    def test_a_thousand(self):
        run = Run(COUNTS)
        for worth in range(1000):
            run.give(worth)
        self.assertEqual(run.inputs(), list(range(1000)))
        for worth in range(999, -1, -1):
            run.back()
            self.assertEqual(run.inputs(), list(range(worth)))


class Beginning(Runs):
    def test_amid_a_run(self):
        run = Run(COUNTS)
        run.give(2)
        run.go()
        self.assertIsNone(run.begin())
        self.assert_stands(run, COUNTS, first_state(COUNTS), [2])
        self.assertEqual(run.go(), 7)
        self.assertEqual(run.said(), [(1, 1), (2, 4)])

    def test_at_a_told_line(self):
        run = Run(COUNTS)
        run.give(2)
        run.go()
        for first in (10, 60, 70, None):
            self.assertIsNone(run.begin(first=first))
            self.assert_stands(run, COUNTS, first_state(COUNTS, first=first), [2])

    def test_at_none(self):
        run = Run(COUNTS)
        run.give(2)
        run.go()
        for first in (0, 1, 15, 80, 9999, 10000, -10, 10 ** 99):
            self.assert_refused(run, NoLine, {"number": first}, run.begin, first=first)
        for thing in (True, False, "10", (10,), [], {}, (), "", [10]):
            self.assert_refused(run, NoLine, {"number": None}, run.begin, first=thing)
        empty = Run(())
        empty.begin()
        self.assert_stands(empty, (), first_state(()), [])
        self.assert_refused(empty, NoLine, {"number": 10}, empty.begin, first=10)


def deep_run():
    """A run of DEEP that stands amid its call and loop, with a trap."""
    run = Run(DEEP)
    run.give(7)
    run.go()
    assert run.state()[:2] == ("stopped", 70) and run.pile() == (("call", 20), ("loop", "i", 50, 2, 1))
    return run


class Changing(Runs):
    def assert_changed(self, run, change):
        """The deed of the change does what point 17 tells."""
        program, state, inputs = run.program(), run.state(), run.inputs()
        before = tells(run)
        deed = run.put if change[0] == "put" else run.strike
        self.assertIsNone(deed(change[1]))
        self.assert_stands(run, changed(program, change), changed_state(program, state, change), inputs)
        self.assert_taken_back(run, before)
        deed(change[1])

    def test_frames_kept_and_dropped(self):
        for change, pile in (
            (("put", (65, NOTE)), (("call", 20), ("loop", "i", 50, 2, 1))),
            (("put", (50, ("loop", "i", number(1), number(9), number(1)))), (("call", 20),)),
            (("put", (20, ("call", 60))), ()),
            (("strike", 20), ()),
            (("strike", 50), (("call", 20),)),
            (("strike", 60), (("call", 20), ("loop", "i", 50, 2, 1))),
            (("put", (50, DEEP[4][1])), (("call", 20), ("loop", "i", 50, 2, 1))),
        ):
            run = deep_run()
            self.assert_changed(run, change)
            self.assertEqual(run.pile(), pile)

    def test_traps_places_and_the_line_it_is_at(self):
        run = deep_run()
        self.assertEqual(run.state()[7], 90)
        self.assert_changed(run, ("strike", 90))
        self.assertEqual(run.state()[7], 0)
        self.assert_changed(run, ("strike", 70))
        self.assertEqual(run.at(), 80)
        for at in (80, 95):
            self.assert_changed(run, ("strike", at))
        self.assertEqual(run.state()[:2], ("ended", 0))

    def test_with_a_fault(self):
        run = Run(FAULTY)
        run.go()
        self.assertEqual((run.state()[:2], run.state()[9]), (("faulted", 10), ("empty", 10)))
        self.assert_changed(run, ("strike", 10))
        self.assertEqual((run.state()[:2], run.state()[9]), (("faulted", 20), ("empty", 10)))
        self.assert_changed(run, ("strike", 20))
        self.assertEqual((run.state()[:2], run.state()[9]), (("faulted", 0), ("empty", 10)))
        self.assert_changed(run, ("put", (10, NOTE)))
        self.assertEqual(run.state()[:2], ("faulted", 0))
        self.assertEqual(run.go(), 0)

    def test_the_run_goes_on_from_what_stands(self):
        run = deep_run()
        run.put((25, ("say", (box("i"),))))
        run.go()
        self.assertEqual(run.state()[:2], ("stopped", 70))
        run.go()
        self.assertEqual((run.state()[:2], run.said()), (("ended", 0), [(3,), (1,)]))

    def test_a_program_written_line_by_line(self):
        run = Run(())
        for line in COUNTS[::-1]:
            run.put(line)
        self.assert_stands(run, COUNTS, first_state(()), [])
        run.begin()
        self.assert_stands(run, COUNTS, first_state(COUNTS), [])

    def test_refused(self):
        run = deep_run()
        for thing in (*ODD, None, NOTE, 10, (0, NOTE), (10000, NOTE), (True, NOTE), [10, NOTE], "10 end", (10, ("go", 0))):
            self.assert_refused(run, NoChange, {}, run.put, thing)
        for thing in (None, True, False, "10", (10,), [], {}, ()):
            self.assert_refused(run, NoChange, {}, run.strike, thing)
        for at in (0, 15, 9999, 10000, -1, 10 ** 99):
            self.assert_refused(run, NoLine, {"number": at}, run.strike, at)
        full = Run(HUNDRED)
        self.assert_refused(full, TooMany, {}, full.put, (101, NOTE))
        full.put((100, END))
        self.assertEqual(len(full), 100)


class Renumbering(Runs):
    def test_amid_a_run(self):
        for how in ({}, {"first": 1}, {"step": 1}, {"first": 1000, "step": 7}, {"first": 1, "step": 1}):
            run = deep_run()
            before = tells(run)
            program, pairs = renumbered(DEEP, **how)
            state = led_state(run.state(), pairs)
            self.assertIsNone(run.renumber(**how))
            self.assert_stands(run, program, state, [7])
            self.assert_taken_back(run, before)
            run.renumber(**how)
            run.go(), run.go()
            self.assertEqual((run.state()[:2], run.said()), (("ended", 0), [(1,)]))

    def test_with_a_fault(self):
        run = Run(FAULTY)
        run.go()
        run.renumber(first=5, step=3)
        self.assertEqual((run.state()[:2], run.state()[9]), (("faulted", 5), ("empty", 5)))

    def test_refused_by_the_program(self):
        run = Run(DEEP)
        self.assert_refused(run, TooGreat, {}, run.renumber, first=9991)
        self.assert_refused(run, TooGreat, {}, run.renumber, step=1200)
        self.assert_refused(run, TooGreat, {}, run.renumber, first=10 ** 99, step=10 ** 99)
        run = Run(((10, NOTE), (20, ("goby", A)), (30, ("go", 7))))
        self.assert_refused(run, Reckoned, {"line": 20}, run.renumber)
        self.assert_refused(run, TooGreat, {}, run.renumber, step=9999)
        run = Run(((10, NOTE), (30, ("pick", A, "go", (10, 7, 8)))))
        self.assert_refused(run, NoTarget, {"line": 30, "target": 7}, run.renumber)

    def test_refused_by_the_state(self):
        run = Run(FAULTY)
        run.go()
        run.strike(10)
        # The fault's line isn't there any more.
        self.assert_refused(run, NoTarget, {"line": 0, "target": 10}, run.renumber)
        run = Run(((10, ("data", (1, 2))), (20, ("read", "a")), (30, ("stop",)), (40, NOTE)))
        run.go()
        run.strike(10)
        self.assert_refused(run, NoTarget, {"line": 0, "target": 10}, run.renumber)
        run = Run(((10, ("fit", "f", "x", ("where",))), (20, ("stop",)), (30, NOTE)))
        run.go()
        run.strike(10)
        self.assert_refused(run, Reckoned, {"line": 0}, run.renumber)
        # What the program refuses goes ahead.
        run.put((30, ("go", 7)))
        self.assert_refused(run, NoTarget, {"line": 30, "target": 7}, run.renumber)
        run.put((30, ("goby", A)))
        self.assert_refused(run, Reckoned, {"line": 30}, run.renumber)

    def test_of_no_lines(self):
        run = Run(())
        run.renumber(first=10 ** 99, step=10 ** 99)
        self.assert_stands(run, (), first_state(()), [])
        self.assertEqual(count_deeds(run), 1)


class TakingBack(Runs):
    def deeds_of(self, run):
        """Each kind of deed, also such as change nothing here."""
        return (run.step, run.go, lambda: run.go(most=0), lambda: run.give(1), run.begin, lambda: run.begin(first=60),
                lambda: run.put((15, NOTE)), lambda: run.put(COUNTS[0]), lambda: run.strike(70), run.renumber,
                lambda: run.renumber(first=10, step=10))

    def test_each_kind_of_deed(self):
        for at in range(11):
            run = Run(COUNTS)
            run.give(2)
            run.go()
            before = tells(run)
            self.deeds_of(run)[at]()
            self.assert_taken_back(run, before)
            self.assertEqual(count_deeds(run), 2)

    def test_many_one_behind_another(self):
        run = Run(COUNTS)
        stood = []
        for at in (3, 1, 0, 6, 1, 2, 0, 4, 7, 3, 1, 9, 10, 0, 5, 1, 8, 1, 1):
            try:
                before = tells(run)
                self.deeds_of(run)[at]()
                stood.append(before)
            except NoLine:
                pass
        self.assertGreater(len(stood), 15)
        self.assertEqual(count_deeds(run), len(stood))
        for before in stood[::-1]:
            self.assert_taken_back(run, before)
        self.assert_refused(run, NoBack, {}, run.back)

    def test_without_a_deed(self):
        for program in ((), COUNTS):
            run = Run(program)
            self.assert_refused(run, NoBack, {}, run.back)
            run.step()
            run.back()
            self.assert_refused(run, NoBack, {}, run.back)
        with self.assertRaises(LookupError) as caught:
            run.back()
        self.assertNotIsInstance(caught.exception, ValueError)

    def test_what_is_refused_is_no_deed(self):
        run = Run(COUNTS)
        run.give(5)
        for deed in (lambda: run.give(None), lambda: run.put(None), lambda: run.strike(5), lambda: run.begin(first=5),
                     lambda: run.renumber(first=9999)):
            with self.assertRaises(LineError):
                deed()
        run.back()
        self.assertEqual(run.inputs(), [])
        self.assert_refused(run, NoBack, {}, run.back)

    def test_back_is_no_deed(self):
        run = Run(COUNTS)
        run.give(1)
        run.give(2)
        run.back()
        run.back()
        self.assertEqual(run.inputs(), [])
        self.assert_refused(run, NoBack, {}, run.back)


class Busy(Runs):
    def test_just_while_it_does_a_deed(self):
        seen = []
        own = {name: getattr(runs, name) for name in ("walk", "changed", "first_state", "renumbered", "is_worth")}
        run = Run(COUNTS)

        def watched(name):
            def watching(*things, **how):
                seen.append((name, run.busy))
                return own[name](*things, **how)
            return watching

        try:
            for name in own:
                setattr(runs, name, watched(name))
            for deed in (run.step, run.go, lambda: run.give(1), run.begin, lambda: run.put((15, NOTE)), lambda: run.strike(15),
                         run.renumber):
                self.assertIs(run.busy, False)
                deed()
                self.assertIs(run.busy, False)
            for deed in (lambda: run.give(None), lambda: run.begin(first=5), lambda: run.put(5), lambda: run.renumber(first=9999)):
                with self.assertRaises(LineError):
                    deed()
                self.assertIs(run.busy, False)
        finally:
            for name in own:
                setattr(runs, name, own[name])
        self.assertEqual({name for name, _ in seen}, set(own))
        self.assertTrue(all(busy for _, busy in seen))


class Telling(Runs):
    def test_has_of_anything(self):
        run = Run(((1, NOTE), (10, END)))
        for thing, told in ((1, True), (10, True), (0, False), (2, False), (-1, False), (10 ** 99, False), (True, False),
                            (False, False), ("1", False), (None, False), ((1,), False), ([1], False), ({}, False)):
            self.assertIs(run.has(thing), told)
        for thing in ODD:
            self.assertIs(run.has(thing), False)
        self.assertIs(Run(()).has(1), False)
        run.strike(1)
        self.assertIs(run.has(1), False)

    def test_alike(self):
        run = Run(COUNTS)
        self.assertTrue(run == run and run == Run(COUNTS) and not run != Run(COUNTS))
        self.assertIs(run == Run(COUNTS), True)
        self.assertIs(run == Run(COUNTS[:3]), False)
        self.assertIs(run != Run(COUNTS[:3]), True)
        other = Run(COUNTS)
        other.give(1)
        self.assertFalse(run == other)
        run.give(1)
        self.assertTrue(run == other)
        run.step()
        self.assertFalse(run == other)
        # By other deeds, but to the same state.
        other.go(most=0), other.go(most=1)
        self.assertTrue(run == other and count_deeds(run) != count_deeds(other))
        self.assertTrue(Run(()) == Run(()))

    def test_like_nothing_else(self):
        run = Run(())
        for thing in (*ODD, None, (), 0, "", run.program(), run.state(), (run.program(), run.state(), ()), str(run), repr(run)):
            self.assertIs(run == thing, False)
            self.assertIs(run != thing, True)

    def test_texts_of_it(self):
        for program in ((), COUNTS, DEEP):
            self.assertEqual(str(Run(program)), show_program(program))
        self.assertEqual(repr(Run(())), "Run(0 lines, ended at 0)")
        self.assertEqual(repr(Run(((7, END),))), "Run(1 lines, going at 7)")
        run = Run(COUNTS)
        run.go()
        self.assertEqual(repr(run), "Run(7 lines, asks at 10)")
        run.give("x")
        run.go()
        self.assertEqual(repr(run), "Run(7 lines, faulted at 20)")
        self.assertEqual(repr(deep_run()), "Run(10 lines, stopped at 70)")

    def test_what_was_told_is_the_asker_s(self):
        run = Run(COUNTS)
        run.give(2)
        run.go()
        before = tells(run)
        run.inputs().append(5)
        run.inputs().clear()
        run.said().append((5,))
        run.boxes()["n"] = 7
        run.boxes().clear()
        self.assertTrue(is_same(tells(run), before))
        told = (run.inputs(), run.said(), run.boxes(), run.state(), run.program())
        kept = repr(told)
        run.give(3), run.go(), run.put((15, NOTE)), run.begin(), run.back()
        self.assertEqual(repr(told), kept)


class Twins(Runs):
    def test_stands_as_it_does_with_its_deeds(self):
        run = deep_run()
        run.put((25, NOTE))
        before = tells(run)
        twin = run.twin()
        self.assertIs(type(twin), Run)
        self.assertTrue(twin == run and is_same(tells(twin), before))
        self.assertEqual(count_deeds(twin), count_deeds(run))

    def test_from_then_on_by_itself(self):
        run = deep_run()
        twin = run.twin()
        before = tells(run)
        twin.put((25, NOTE)), twin.go(), twin.give(8), twin.renumber()
        self.assertTrue(is_same(tells(run), before))
        self.assertEqual(count_deeds(run), 2)
        for _ in range(6):
            twin.back()
        self.assert_stands(twin, DEEP, first_state(DEEP), [])
        self.assert_refused(twin, NoBack, {}, twin.back)
        self.assertTrue(is_same(tells(run), before))
        other = run.twin()
        run.back(), run.back()
        self.assertTrue(is_same(tells(other), before))
        other.back()
        self.assert_stands(other, DEEP, first_state(DEEP), [7])


class Whole(Runs):
    """A run's answers hang on its program, its inputs and its deeds alone."""

    def deed_of(self, chance, run):
        """A drawn deed, and what it must leave: (deed, program, state, inputs, told)."""
        program, state, inputs = run.program(), run.state(), run.inputs()
        most, worth, first = chance.one_of((0, 1, 5, 40)), chance.one_of((0, 1, "x")), chance.one_of((None, chance.number()))
        line = (chance.one_of((chance.number(), 3, 300)), chance.statement())
        number = chance.number()
        kind = chance.one_of(("step", "step", "go", "go", "give", "begin", "put", "put", "strike", "renumber"))
        if kind == "step":
            return (run.step, program, step(program, state, inputs), inputs, int(state[0] == "going"))
        if kind == "go":
            return (lambda: run.go(most=most), program, *walked_on(program, state, inputs, most))
        if kind == "give":
            return (lambda: run.give(worth), program, state, [*inputs, worth], None)
        if kind == "begin":
            return (lambda: run.begin(first=first), program, first_state(program, first=first), inputs, None)
        if kind in ("put", "strike"):
            change = ("put", line) if kind == "put" else ("strike", number)
            deed = (lambda: run.put(line)) if kind == "put" else (lambda: run.strike(number))
            return (deed, changed(program, change), changed_state(program, state, change), inputs, None)
        led, pairs = renumbered(program, first=20, step=3)
        return (lambda: run.renumber(first=20, step=3), led, led_state(state, pairs), inputs, None)

    def test_drawn_deeds_and_each_taken_back(self):
        done = 0
        for seed in range(150):
            chance = Chance(seed, led=seed % 2 == 0)
            run = Run(chance.program())
            stood = []
            for _ in range(25):
                try:
                    deed, program, state, inputs, told = self.deed_of(chance, run)
                except LineError:
                    continue
                stood.append(tells(run))
                self.assertTrue(is_same(deed(), told), seed)
                self.assert_stands(run, program, state, inputs)
            done += len(stood)
            for before in stood[::-1]:
                self.assert_taken_back(run, before)
            self.assertRaises(NoBack, run.back)
        self.assertGreater(done, 1500)


def walked_on(program, state, inputs, most):
    told, steps = walk(program, inputs, state=gone_on(program, state, inputs), most=most)
    return (told, inputs, steps)


if __name__ == "__main__":
    unittest.main()
