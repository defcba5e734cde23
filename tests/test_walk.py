"""Point 13: walks, all states on the way, and states that go on."""

import unittest

from numberedlines.states import first_state, is_state
from numberedlines.walk import gone_on, states_on, step, walk
from stepping import COUNTS, NOTE, amid, box, full, number
from things import is_plain, is_same

ENDLESS = ((10, ("set", "a", number(0))), (20, ("set", "a", ("+", box("a"), number(1)))), (30, ("go", 20)))
PROGRAMS = (COUNTS, ENDLESS, (), ((1, NOTE),), ((1, ("go", 2)),), ((1, ("stop",)), (2, NOTE)))


class Walks(unittest.TestCase):
    def test_until_it_is_not_going(self):
        for program, inputs, stand, at, steps in (
            (COUNTS, [], "asks", 10, 1),
            (COUNTS, [3], "stopped", 60, 9),
            (COUNTS, [0], "stopped", 60, 3),
            (COUNTS, ["x"], "faulted", 20, 2),
            ((), [], "ended", 0, 0),
            (((1, NOTE),), [], "ended", 0, 1),
            (((1, ("go", 2)),), [], "faulted", 1, 1),
        ):
            state, told = walk(program, inputs)
            self.assertEqual((state[0], state[1], told), (stand, at, steps), (program, inputs))
            self.assertIs(type(told), int)
            self.assertTrue(is_plain((state, told)))

    def test_what_it_has_come_to(self):
        state, steps = walk(COUNTS, [2])
        told = ("stopped", 60, (("i", 3), ("n", 2)), (), (), (), (0, 0), 0, False, None, 1, ((1, 1), (2, 4)))
        self.assertTrue(is_same((state, steps), (told, 7)))

    def test_most(self):
        for most in (0, 1, 2, 3, 7, 8, 9, 10, 1000):
            state, steps = walk(COUNTS, [3], most=most)
            self.assertEqual(steps, min(most, 9))
            self.assertEqual(state, states_on(COUNTS, [3])[steps])
        self.assertEqual(walk(COUNTS, [3], most=0), (first_state(COUNTS), 0))

    def test_a_thousand_where_none_is_told(self):
        state, steps = walk(ENDLESS, [])
        self.assertEqual((steps, state[:3]), (1000, ("going", 30, (("a", 500),))))
        self.assertEqual(len(states_on(ENDLESS, [])), 1001)
        self.assertEqual(walk(ENDLESS, [], most=1001), (step(ENDLESS, state, []), 1001))

    def test_from_a_told_state(self):
        state = full(at=30)
        self.assertEqual(walk(amid(NOTE), [], state=state), (full(stand="ended", at=0), 3))
        self.assertEqual(walk(amid(NOTE), [], state=state, most=1), (full(at=85), 1))
        self.assertEqual(walk(COUNTS, [9, 3], state=first_state(COUNTS, first=60))[0][1], 70)
        self.assertEqual(walk(COUNTS, [9], state=None), walk(COUNTS, [9]))

    def test_from_a_state_that_is_not_going(self):
        for stand, at in (("stopped", 10), ("asks", 10), ("faulted", 10), ("faulted", 0), ("ended", 0)):
            state = full(stand=stand, at=at)
            self.assertEqual(walk(amid(NOTE), [1] * 9, state=state), (state, 0))
            self.assertEqual(states_on(amid(NOTE), [1] * 9, state=state), [state])

    def test_a_walk_cut_and_walked_on_is_the_walk(self):
        for program in PROGRAMS:
            for inputs in ([], [3], [3, 1], [3, 0]):
                whole = walk(program, inputs, most=30)
                for cut in range(31):
                    state, steps = walk(program, inputs, most=cut)
                    rest, more = walk(program, inputs, state=state, most=30 - cut)
                    self.assertEqual((rest, steps + more), whole)

    def test_nothing_handed_in_is_changed_and_the_same_is_told_again(self):
        inputs = [3, 1]
        state = first_state(COUNTS)
        before = repr((COUNTS, inputs, state))
        told = [walk(COUNTS, inputs, state=state) for _ in range(3)]
        lists = [states_on(COUNTS, inputs, state=state) for _ in range(3)]
        self.assertEqual(repr((COUNTS, inputs, state)), before)
        self.assertEqual(told, [told[0]] * 3)
        self.assertEqual(lists, [lists[0]] * 3)
        lists[0].clear()
        self.assertEqual(states_on(COUNTS, inputs, state=state), lists[1])


class StatesOn(unittest.TestCase):
    def test_the_list_begins_with_the_first_state_and_goes_step_by_step(self):
        for program in PROGRAMS:
            for inputs in ([], [3], [3, 1], ["x"]):
                states = states_on(program, inputs, most=50)
                self.assertIs(type(states), list)
                self.assertTrue(is_plain(states))
                self.assertEqual(states[0], first_state(program))
                for one, other in zip(states, states[1:]):
                    self.assertEqual(one[0], "going")
                    self.assertEqual(step(program, one, inputs), other)
                    self.assertTrue(is_state(program, other))
                self.assertEqual((states[-1], len(states) - 1), walk(program, inputs, most=50))

    def test_most(self):
        whole = states_on(COUNTS, [3])
        self.assertEqual(len(whole), 10)
        for most in (0, 1, 5, 8, 9, 10, 99):
            self.assertEqual(states_on(COUNTS, [3], most=most), whole[:most + 1])

    def test_from_a_told_state(self):
        whole = states_on(COUNTS, [3])
        for at, state in enumerate(whole):
            self.assertEqual(states_on(COUNTS, [3], state=state), whole[at:])
        self.assertEqual(states_on(COUNTS, [3], state=whole[2], most=0), [whole[2]])


class GoneOn(unittest.TestCase):
    def assert_told(self, state, told, inputs=(), program=amid(NOTE)):
        inputs = list(inputs)
        before = repr((program, state, inputs))
        for _ in range(2):
            answer = gone_on(program, state, inputs)
            self.assertTrue(is_same(answer, told), (answer, told))
        self.assertEqual(repr((program, state, inputs)), before)

    def test_stopped(self):
        for inputs in ([], [1], [1, 2, 3]):
            for parts in ({}, {"trapped": True, "trap": 5}, {"fault": None}, {"at": 99}):
                self.assert_told(full(stand="stopped", **parts), full(**parts), inputs)

    def test_stopped_where_no_line_is_next(self):
        state = full(stand="stopped", at=0)
        self.assert_told(state, state, [1, 2, 3], program=())

    def test_asks_with_more_inputs_than_asked(self):
        self.assert_told(full(stand="asks"), full(), [1, 2, 3])
        self.assert_told(full(stand="asks"), full(), [1, 2, 3, 4])
        self.assert_told(full(stand="asks", asked=0), full(asked=0), [""])

    def test_asks_without(self):
        for asked, inputs in ((0, []), (2, []), (2, [1]), (2, [1, 2]), (1000, [1, 2])):
            state = full(stand="asks", asked=asked)
            self.assert_told(state, state, inputs)

    def test_faulted(self):
        for inputs in ([], [1, 2, 3]):
            for parts in ({}, {"trapped": True, "trap": 5}, {"fault": ("kind", 10)}, {"fault": None}, {"at": 5}):
                self.assert_told(full(stand="faulted", **parts), full(**parts), inputs)

    def test_faulted_at_nought(self):
        state = full(stand="faulted", at=0)
        for program in ((), amid(NOTE)):
            self.assert_told(state, state, [1, 2, 3], program=program)

    def test_going_and_ended(self):
        for state in (full(), full(stand="ended", at=0), full(at=99)):
            self.assert_told(state, state, [])
            self.assert_told(state, state, [1, 2, 3])

    def test_a_faulted_line_is_tried_again(self):
        program = ((10, ("say", (box("a"),))),)
        faulted, _ = walk(program, [])
        self.assertEqual(faulted[:2], ("faulted", 10))
        self.assertEqual(walk(program, [], state=gone_on(program, faulted, [])), (faulted, 1))
        other = ((10, ("say", (number(1),))),)
        self.assertEqual(walk(other, [], state=gone_on(other, faulted, []))[0][0], "ended")

    def test_a_run_that_stops_and_asks(self):
        stopped, _ = walk(COUNTS, [2])
        asks, steps = walk(COUNTS, [2], state=gone_on(COUNTS, stopped, [2]))
        self.assertEqual((asks[:2], steps), (("asks", 60), 1))
        self.assertEqual(gone_on(COUNTS, asks, [2]), asks)
        ended, steps = walk(COUNTS, [2, 1], state=gone_on(COUNTS, asks, [2, 1]))
        self.assertEqual((ended[:2], ended[11][-1], steps), (("ended", 0), (2,), 2))


if __name__ == "__main__":
    unittest.main()
