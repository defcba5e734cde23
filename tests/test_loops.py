"""Point 10: where loops begin and end."""

import unittest

from numberedlines.loops import again_behind, closed_by
from things import is_plain, is_same

ONE = ("number", 1)
PROGRAM = (
    (5, ("again", "i")),
    (10, ("loop", "i", ONE, ONE, ONE)),
    (20, ("loop", "j", ONE, ONE, ONE)),
    (30, ("again", "j")),
    (40, ("again", "i")),
    (50, ("note", "again i")),
    (60, ("again", "i")),
    (70, ("read", "k")),
    (80, ("ask", "i")),
)


class AgainBehind(unittest.TestCase):
    def assert_told(self, number, name, told):
        for _ in range(2):
            self.assertTrue(is_same(again_behind(PROGRAM, number, name), told), (number, name))

    def test_the_first_one_behind(self):
        for number, told in ((5, 40), (10, 40), (20, 40), (30, 40), (39, 40), (40, 60), (41, 60), (50, 60), (59, 60)):
            self.assert_told(number, "i", told)
        for number in (5, 10, 20, 29):
            self.assert_told(number, "j", 30)

    def test_none_behind(self):
        for number in (60, 61, 80, 9999):
            self.assert_told(number, "i", None)
        for number in (30, 31, 40, 9999):
            self.assert_told(number, "j", None)

    def test_numbers_of_no_line(self):
        self.assert_told(0, "i", 5)
        self.assert_told(1, "i", 5)
        self.assert_told(4, "i", 5)
        self.assert_told(6, "i", 40)

    def test_other_names_and_other_lines(self):
        for name in ("k", "ii", "x"):
            self.assert_told(0, name, None)
        self.assertIsNone(again_behind((), 10, "i"))


class ClosedBy(unittest.TestCase):
    I = ("loop", "i", 10, 5, 1)
    J = ("loop", "j", 20, 5, 1)
    K = ("loop", "k", 30, 5, 1)
    CALL = ("call", 40)

    def assert_told(self, pile, name, told):
        before = repr(pile)
        for _ in range(2):
            answer = closed_by(pile, name)
            self.assertTrue(is_same(answer, told), (pile, name, answer))
            self.assertTrue(is_plain(answer))
        self.assertEqual(repr(pile), before)

    def test_it_and_all_above(self):
        pile = (self.I, self.J, self.K)
        self.assert_told(pile, "k", (self.I, self.J))
        self.assert_told(pile, "j", (self.I,))
        self.assert_told(pile, "i", ())

    def test_above_the_topmost_call(self):
        pile = (self.I, self.CALL, self.K, self.CALL, self.J, self.I)
        self.assert_told(pile, "i", pile[:5])
        self.assert_told(pile, "j", pile[:4])
        self.assert_told((self.I, self.CALL, self.J), "j", (self.I, self.CALL))

    def test_beneath_the_topmost_call(self):
        self.assert_told((self.I, self.CALL), "i", None)
        self.assert_told((self.I, self.CALL, self.J), "i", None)
        self.assert_told((self.I, self.CALL, self.J, self.CALL), "j", None)

    def test_several_of_the_name(self):
        other = ("loop", "i", 70, 9, 2)
        self.assert_told((self.I, other), "i", (self.I,))
        self.assert_told((self.I, self.J, other, self.K), "i", (self.I, self.J))
        self.assert_told((self.I, self.CALL, other), "i", (self.I, self.CALL))
        self.assert_told((self.I,) * 50, "i", (self.I,) * 49)

    def test_none_of_the_name(self):
        self.assert_told((), "i", None)
        self.assert_told((self.CALL,), "i", None)
        self.assert_told((self.CALL, self.CALL), "call", None)
        self.assert_told((self.J, self.K), "i", None)
        self.assert_told((self.J,), "loop", None)


if __name__ == "__main__":
    unittest.main()
