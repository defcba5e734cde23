"""Point 11: where data is read on."""

import unittest

from numberedlines.readings import next_data
from things import HUNDRED_FIGURES, is_plain, is_same

PROGRAM = (
    (10, ("read", "a")),
    (20, ("data", (1, "two"))),
    (30, ("note", "data 7")),
    (40, ("data", (-3,))),
    (50, ("data", ("", 5, 6, 7, 8, 9))),
    (60, ("end",)),
)


class NextData(unittest.TestCase):
    def assert_told(self, place, told, program=PROGRAM):
        for _ in range(2):
            answer = next_data(program, place)
            self.assertTrue(is_same(answer, told), (place, answer))
            self.assertTrue(is_plain(answer))

    def test_ahead_of_all(self):
        for place in ((0, 0), (0, 9), (1, 0), (10, 0), (10, 1), (19, 5)):
            self.assert_told(place, (1, (20, 1)))

    def test_within_a_data_line(self):
        self.assert_told((20, 0), (1, (20, 1)))
        self.assert_told((20, 1), ("two", (20, 2)))
        self.assert_told((40, 0), (-3, (40, 1)))
        self.assert_told((50, 0), ("", (50, 1)))
        self.assert_told((50, 5), (9, (50, 6)))

    def test_at_its_end_and_beyond(self):
        for read in (2, 3, 6, 7, HUNDRED_FIGURES):
            self.assert_told((20, read), (-3, (40, 1)))
        for read in (1, 2, 5):
            self.assert_told((40, read), ("", (50, 1)))
        for read in (6, 7, HUNDRED_FIGURES):
            self.assert_told((50, read), None)

    def test_at_other_lines_and_between_lines(self):
        for number in (21, 25, 30, 31, 39):
            for read in (0, 1, 2):
                self.assert_told((number, read), (-3, (40, 1)))
        for number in (41, 45, 49):
            self.assert_told((number, 1), ("", (50, 1)))

    def test_behind_all(self):
        for number in (51, 59, 60, 61, 9999):
            for read in (0, 1, 5):
                self.assert_told((number, read), None)

    def test_led_on_to_the_end(self):
        worths = []
        place = (0, 0)
        while next_data(PROGRAM, place) is not None:
            worth, place = next_data(PROGRAM, place)
            worths.append(worth)
        self.assertEqual(worths, [1, "two", -3, "", 5, 6, 7, 8, 9])
        self.assertEqual(place, (50, 6))

    def test_no_data(self):
        for program in ((), ((10, ("read", "a")),), ((10, ("note", "data 1")), (20, ("end",)))):
            for place in ((0, 0), (10, 0), (20, 3)):
                self.assert_told(place, None, program)

    def test_nothing_is_changed(self):
        before = repr(PROGRAM)
        self.assert_told((20, 1), ("two", (20, 2)))
        self.assertEqual(repr(PROGRAM), before)


if __name__ == "__main__":
    unittest.main()
