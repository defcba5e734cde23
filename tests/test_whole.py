"""Point 3: what is promised over the whole program, for drawn programs of every statement."""

import unittest

from numberedlines.alike import held
from numberedlines.changes import changed, changed_state
from numberedlines.code import made
from numberedlines.desk import Desk
from numberedlines.empties import found_empty, may_be_empty
from numberedlines.errors import LineError
from numberedlines.flow import never
from numberedlines.machine import machine_step, machine_walk
from numberedlines.reach import is_paper, told_of
from numberedlines.reader import read_program
from numberedlines.renumber import led_state, renumbered
from numberedlines.runs import Run
from numberedlines.states import first_state, is_state
from numberedlines.texts import show_line, show_program
from numberedlines.walk import gone_on, states_on, walk
from numberedlines.words import STATEMENTS, is_program
from programs import Chance
from things import is_same

MOST = 60


def drawn(many, **how):
    """Tuples (seed, program, inputs)."""
    for seed in range(many):
        chance = Chance(seed, **how)
        yield seed, chance.program(), chance.inputs()


def stops(program, inputs, walking):
    """The states at which a walk stands that is gone on with, each time with one input more."""
    given, told = list(inputs), []
    state = first_state(program)
    for more in (1, "x", 0, 2):
        state, steps = walking(program, given, state)
        told.append((state, steps))
        given.append(more)
        state = gone_on(program, state, given)
    return told


def by_walk(program, inputs, state):
    return walk(program, inputs, state=state, most=MOST)


def by_machine(program, inputs, state):
    return machine_walk(made(program), program, inputs, state=state, most=MOST)


class Whole(unittest.TestCase):
    def test_every_statement_is_drawn(self):
        words = {statement[0] for _, program, _ in drawn(100) for _, statement in program}
        self.assertEqual(words, set(STATEMENTS))

    def test_walk_and_machine_come_to_the_same_at_each_stop_and_fault(self):
        stands = []
        for seed, program, drawn_inputs in drawn(1200):
            # Drawn inputs are seldom too few, so each program is walked without any as well.
            for inputs in (drawn_inputs, []):
                told = stops(program, inputs, by_walk)
                self.assertTrue(is_same(told, stops(program, inputs, by_machine)), seed)
                stands.extend(state[0] for state, _ in told)
                self.assertTrue(all(is_state(program, state) for state, _ in told), seed)
        for stand in ("going", "stopped", "asks", "ended", "faulted"):
            self.assertGreater(stands.count(stand), 50, stand)

    def test_walk_and_machine_line_by_line(self):
        for seed, program, inputs in drawn(150):
            code = made(program)
            states = states_on(program, inputs, most=MOST)
            for one, other in zip(states, states[1:]):
                self.assertTrue(is_same(machine_step(code, program, one, inputs), other), seed)

    def test_a_renumbered_program_runs_alike_its_lines_led(self):
        led = 0
        for seed, program, inputs in drawn(400, led=True):
            try:
                new, pairs = renumbered(program, first=7 + seed, step=1 + seed % 50)
                states = states_on(program, inputs, most=MOST)
                told = [led_state(state, pairs) for state in states]
            except LineError:
                continue
            led += 1
            self.assertTrue(is_same(states_on(new, inputs, most=MOST), told), seed)
            self.assertTrue(is_same(states_on(new, inputs, state=told[0], most=MOST), told), seed)
            self.assertEqual(held(program, new, most=30)[0] == "apart", False)
        self.assertGreater(led, 300)

    def test_a_renumbered_run_goes_on_as_the_led_one(self):
        for seed, program, inputs in drawn(200, led=True):
            run = Run(program)
            for worth in inputs:
                run.give(worth)
            run.go(most=seed % 20)
            twin = run.twin()
            try:
                twin.renumber(first=500, step=3)
            except LineError:
                continue
            pairs = renumbered(program, first=500, step=3)[1]
            for _ in range(3):
                self.assertEqual(run.go(most=20), twin.go(most=20))
                self.assertEqual(led_state(run.state(), pairs), twin.state(), seed)

    def test_what_is_written_is_read_back(self):
        for seed, program, _ in drawn(300):
            text = show_program(program)
            self.assertTrue(is_same(read_program(text), program), seed)
            self.assertEqual(show_program(read_program(text)), text)
            self.assertEqual(str(Run(program)), text)

    def test_a_run_a_desk_and_a_walk_tell_the_same(self):
        for seed, program, inputs in drawn(100):
            desk, run = Desk(), Run(program)
            desk.say("new a")
            for line in program:
                desk.say(show_line(line))
            for worth in inputs:
                run.give(worth)
                desk.say("give " + (f'"{worth}"' if isinstance(worth, str) else str(worth)))
            state, steps = walk(program, inputs)
            self.assertEqual(run.go(), steps)
            self.assertEqual(run.state(), state)
            self.assertEqual(desk.say("run"), f"{state[0]} at {state[1]} {steps}")
            self.assertEqual(desk.say("list"), "|".join(show_line(line) for line in program))

    def test_lines_changed_amid_a_run(self):
        """The run goes on as the walk from what stands."""
        for seed, program, inputs in drawn(300):
            chance = Chance(seed + 10000)
            chance.numbers = tuple(at for at, _ in program)
            change = chance.one_of((("put", (chance.number(), chance.statement())), ("strike", chance.one_of(chance.numbers))))
            run = Run(program)
            for worth in inputs:
                run.give(worth)
            run.go(most=seed % 20)
            state = run.state()
            (run.put if change[0] == "put" else run.strike)(change[1])
            new, left = changed(program, change), changed_state(program, state, change)
            self.assertTrue(is_program(new) and is_state(new, left), seed)
            self.assertEqual(run.go(most=MOST), walk(new, inputs, state=gone_on(new, left, inputs), most=MOST)[1])
            self.assertEqual(run.state(), walk(new, inputs, state=gone_on(new, left, inputs), most=MOST)[0])

    def test_taken_back_deed_by_deed_a_run_stands_as_it_stood(self):
        for seed, program, inputs in drawn(100):
            run, stood = Run(program), []
            for worth in inputs:
                stood.append(run.twin())
                run.give(worth)
            for at, (number, _) in enumerate(program):
                stood.append(run.twin())
                run.step()
                stood.append(run.twin())
                run.strike(number) if at % 3 == 0 else run.begin() if at % 3 == 1 else run.go(most=7)
            for before in stood[::-1]:
                run.back()
                self.assertTrue(run == before, seed)
            self.assertTrue(run == Run(program))

    def test_lines_told_never_and_to_be_come_to(self):
        for seed, program, inputs in drawn(150):
            places = [state[1] for state in states_on(program, inputs, most=MOST)]
            for at, _ in program:
                told = told_of(program, at, worths=(1, "x"), most_inputs=1, most=30)
                if told[0] == "never":
                    self.assertTrue(is_paper(program, at, told[1]) and at in never(program))
                    self.assertNotIn(at, places)
                if told[0] == "reached":
                    state, steps = walk(program, list(told[1]), most=told[2])
                    self.assertEqual((state[:2], steps), (("going", at), told[2]))

    def test_boxes_told_to_be_asked_while_empty(self):
        for seed, program, _ in drawn(300):
            for at, name in may_be_empty(program):
                inputs = found_empty(program, at, name, worths=(1, "x"), most_inputs=1, most=30)
                if inputs is not None:
                    states = states_on(program, list(inputs), most=30)
                    self.assertTrue(any(one[1] == at and name not in dict(one[2]) and other[9] == ("empty", at)
                                        for one, other in zip(states, states[1:])), seed)

    def test_programs_told_apart_and_alike(self):
        for seed, program, _ in drawn(150):
            other = Chance(seed + 1).program() if seed % 2 else program[:-1]
            told = held(program, other, worths=(1, "x"), most_inputs=1, most=30)
            ends = [walk(one, list(told[1]), most=30)[0] for one in (program, other)] if told[0] == "apart" else None
            if ends is not None:
                self.assertNotIn("going", [state[0] for state in ends])
                self.assertNotEqual(*[(state[0], state[9] and state[9][0], state[11]) for state in ends])
            self.assertNotEqual(held(program, program, most=30)[0], "apart")

    def test_the_same_is_told_when_the_same_is_asked_again(self):
        for seed, program, inputs in drawn(50):
            def all_told():
                return repr((walk(program, inputs), made(program), may_be_empty(program), show_program(program),
                             [told_of(program, at, most=20) for at, _ in program], held(program, program[:-1], most=20)))

            self.assertEqual(all_told(), all_told())


if __name__ == "__main__":
    unittest.main()
