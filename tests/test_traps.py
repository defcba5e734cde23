"""Point 12: the state behind a fault."""

import unittest

from numberedlines.states import is_state
from numberedlines.traps import fault_at
from things import is_plain, is_same, with_part

PROGRAM = ((10, ("trap", 30)), (20, ("read", "a")), (30, ("pass",)))
STANDS = ("going", "stopped", "asks", "ended", "faulted")

STAND, AT, TRAP, TRAPPED, FAULT = 0, 1, 7, 8, 9


def standing(stand="going", at=20, trap=0, trapped=False, fault=None):
    """A state with something in each of its other parts."""
    return (
        stand, at, (("a", 1), ("b", "two")), (("r", (0, "one")),), (("f", "x", ("box", "x")),),
        (("call", 10), ("loop", "i", 20, 10, -1)), (20, 2), trap, trapped, fault, 3, ((1, "two"), ()),
    )


class FaultAt(unittest.TestCase):
    def assert_told(self, state, word, number, told, program=PROGRAM):
        before = repr((program, state))
        for _ in range(2):
            answer = fault_at(program, state, word, number)
            self.assertTrue(is_same(answer, told), (state, answer, told))
            self.assertTrue(is_plain(answer))
        self.assertEqual(repr((program, state)), before)

    def test_without_a_trap_it_is_faulted_at_that_line(self):
        self.assert_told(standing(), "data", 20, standing("faulted", 20, fault=("data", 20)))
        self.assert_told(standing(at=10), "kind", 30, standing("faulted", 30, fault=("kind", 30)))

    def test_a_trap_leads_on_at_its_line(self):
        self.assert_told(standing(trap=30), "data", 20, standing("going", 30, 30, True, ("data", 20)))
        self.assert_told(standing(trap=10), "kind", 20, standing("going", 10, 10, True, ("kind", 20)))
        self.assert_told(standing(at=30, trap=30), "trap", 30, standing("going", 30, 30, True, ("trap", 30)))

    def test_a_trap_whose_line_is_not_there(self):
        for trap in (1, 29, 31, 9999):
            self.assert_told(standing(trap=trap), "data", 20, standing("faulted", 20, trap, False, ("data", 20)))
        self.assert_told(standing(trap=30), "data", 20, standing("faulted", 20, 30, False, ("data", 20)), program=())

    def test_while_trapped_it_is_faulted_and_stays_trapped(self):
        for trap in (0, 30, 31):
            told = standing("faulted", 20, trap, True, ("data", 20))
            self.assert_told(standing(trap=trap, trapped=True), "data", 20, told)

    def test_an_elder_fault_is_replaced(self):
        for elder in (None, ("kind", 10), ("data", 20)):
            for trap, trapped in ((0, False), (30, False), (30, True), (31, False)):
                state = standing(trap=trap, trapped=trapped, fault=elder)
                caught = trap == 30 and not trapped
                told = standing("going" if caught else "faulted", 30 if caught else 20, trap, trapped or caught,
                                ("great", 20))
                self.assert_told(state, "great", 20, told)

    def test_with_each_stand(self):
        for stand in STANDS:
            at = 0 if stand == "ended" else 20
            self.assert_told(standing(stand, at), "pile", 20, standing("faulted", 20, fault=("pile", 20)))
            self.assert_told(standing(stand, at, 30), "pile", 20, standing("going", 30, 30, True, ("pile", 20)))
            self.assert_told(standing(stand, at, 30, True), "pile", 20,
                             standing("faulted", 20, 30, True, ("pile", 20)))

    def test_at_a_number_of_no_line(self):
        for number in (1, 25, 31, 9999):
            self.assert_told(standing(), "back", number, standing("faulted", number, fault=("back", number)))
            self.assert_told(standing(trap=30), "back", number, standing("going", 30, 30, True, ("back", number)))

    def test_each_word(self):
        for word in ("empty", "norow", "kind", "range", "nought", "nofit", "deep", "great", "long",
                     "noline", "pile", "back", "again", "data", "trap"):
            self.assert_told(standing(), word, 10, standing("faulted", 10, fault=(word, 10)))

    def test_all_else_stays(self):
        for state in (standing(), standing(trap=30), standing(trap=30, trapped=True), standing(trap=31)):
            answer = fault_at(PROGRAM, state, "kind", 20)
            self.assertEqual(len(answer), 12)
            for at in range(12):
                if at not in (STAND, AT, TRAPPED, FAULT):
                    self.assertEqual(answer[at], state[at])
            self.assertTrue(is_state(PROGRAM, answer))

    def test_of_an_empty_state(self):
        state = ("going", 20, (), (), (), (), (0, 0), 0, False, None, 0, ())
        told = with_part(with_part(with_part(state, STAND, "faulted"), AT, 10), FAULT, ("kind", 10))
        self.assert_told(state, "kind", 10, told)
        trapped = with_part(state, TRAP, 30)
        told = with_part(with_part(with_part(trapped, AT, 30), TRAPPED, True), FAULT, ("kind", 10))
        self.assert_told(trapped, "kind", 10, told)


if __name__ == "__main__":
    unittest.main()
