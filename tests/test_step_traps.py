"""Point 12: steps of trap, retry and pass, and faults amid a walk."""

import unittest

from numberedlines.walk import states_on, walk
from stepping import NOTE, NOUGHT, Steps, amid, box, full, last, number


class Traps(Steps):
    def test_of_a_line(self):
        for trapped in (False, True):
            for elder in (0, 5, 77):
                ahead = {"trap": elder, "trapped": trapped}
                self.assert_goes_on(("trap", 5), ahead=ahead, trap=5)
                self.assert_goes_on(("trap", 10), ahead=ahead, trap=10)

    def test_of_nought(self):
        for trapped in (False, True):
            for elder in (0, 5, 77):
                self.assert_goes_on(("trap", 0), ahead={"trap": elder, "trapped": trapped}, trap=0)

    def test_of_a_line_that_there_is_not(self):
        for target in (1, 6, 11, 100, 9999):
            self.assert_fault(("trap", target), "noline")


class RetryAndPass(Steps):
    def test_retry_is_at_the_faults_line(self):
        for target in (5, 10, 20, 99):
            for trap in (0, 5, 77):
                state = full(trap=trap, trapped=True, fault=("kind", target))
                told = full(trap=trap, trapped=False, fault=("kind", target), at=target)
                self.assert_step(amid(("retry",)), state, told)

    def test_retry_of_a_line_that_is_there_no_more(self):
        for target in (1, 11, 100, 9999):
            for trap in (0, 5, 77):
                for program in (amid(("retry",)), last(("retry",))):
                    state = full(trap=trap, trapped=True, fault=("kind", target))
                    told = full(trap=trap, trapped=True, fault=("noline", 10), stand="faulted")
                    self.assert_step(program, state, told)

    def test_pass_is_behind_the_faults_line(self):
        for number_of_fault, at in ((1, 5), (5, 10), (7, 10), (10, 20), (15, 20), (20, 30), (85, 99), (98, 99)):
            for trap in (0, 5, 77):
                state = full(trap=trap, trapped=True, fault=("kind", number_of_fault))
                told = full(trap=trap, trapped=False, fault=("kind", number_of_fault), at=at)
                self.assert_step(amid(("pass",)), state, told)

    def test_pass_at_the_last_line(self):
        for number_of_fault in (99, 100, 9999):
            state = full(trap=5, trapped=True, fault=("kind", number_of_fault))
            told = full(trap=5, trapped=False, fault=("kind", number_of_fault), stand="ended", at=0)
            self.assert_step(amid(("pass",)), state, told)
        state = full(trapped=True, fault=("kind", 10))
        self.assert_step(last(("pass",)), state, full(fault=("kind", 10), stand="ended", at=0))

    def test_while_not_trapped(self):
        for statement in (("retry",), ("pass",)):
            for program in (amid(statement), last(statement)):
                for fault in (None, ("kind", 5), ("kind", 6)):
                    for trap in (0, 77):
                        told = full(trap=trap, fault=("trap", 10), stand="faulted")
                        self.assert_step(program, full(trap=trap, fault=fault), told)
                    told = full(trap=5, fault=("trap", 10), trapped=True, at=5)
                    self.assert_step(program, full(trap=5, fault=fault), told)

    def test_without_a_fault(self):
        for statement in (("retry",), ("pass",)):
            self.assert_fault(statement, "trap", fault=None)

    def test_a_fault_of_theirs_while_trapped_does_not_end_it(self):
        for statement in (("retry",), ("pass",)):
            state = full(trap=5, trapped=True, fault=None)
            self.assert_step(amid(statement), state, full(trap=5, trapped=True, fault=("trap", 10), stand="faulted"))


class FaultsAmidAWalk(unittest.TestCase):
    def test_trapped_mended_and_tried_again(self):
        program = (
            (10, ("trap", 100)),
            (20, ("say", (("/", number(6), box("a")),))),
            (30, ("end",)),
            (100, ("say", (("why",), ("where",)))),
            (110, ("set", "a", number(2))),
            (120, ("retry",)),
        )
        state, steps = walk(program, [])
        told = ("ended", 0, (("a", 2),), (), (), (), (0, 0), 100, False, ("empty", 20), 0, (("empty", 20), (3,)))
        self.assertEqual((state, steps), (told, 7))

    def test_trapped_and_passed(self):
        program = ((10, ("trap", 50)), (20, ("go", 7)), (30, ("say", (number(1),))), (40, ("end",)), (50, ("pass",)))
        states = states_on(program, [])
        self.assertEqual([state[1] for state in states], [10, 20, 50, 30, 40, 0])
        self.assertEqual([state[8] for state in states], [False, False, True, False, False, False])
        self.assertEqual(states[-1][9], ("noline", 20))

    def test_a_fault_while_trapped_ends_the_walk(self):
        program = ((10, ("trap", 30)), (20, ("say", (NOUGHT,))), (30, ("say", (box("a"),))))
        state, steps = walk(program, [])
        self.assertEqual((state[:2], state[7:10], state[11], steps), (("faulted", 30), (30, True, ("empty", 30)), (), 3))

    def test_a_second_fault_is_trapped_once_the_first_was_passed(self):
        program = ((10, ("trap", 50)), (20, ("back",)), (30, ("again", "i")), (40, ("end",)),
                   (50, ("say", (("why",),))), (60, ("pass",)))
        state, _ = walk(program, [])
        self.assertEqual((state[0], state[9], state[11]), ("ended", ("again", 30), (("back",), ("again",))))

    def test_a_retry_that_faults_each_time_goes_round(self):
        program = ((10, ("trap", 30)), (20, ("back",)), (30, ("retry",)), (40, NOTE))
        state, steps = walk(program, [], most=100)
        self.assertEqual((state[0], state[1], steps), ("going", 30, 100))


if __name__ == "__main__":
    unittest.main()
