"""Point 11: steps of read and anew."""

import unittest

from numberedlines.walk import walk
from stepping import NOTE, PARTS, Steps, amid, box, full, number

DATA = ((3, ("data", (7,))), (20, ("data", (1, "two", 3))), (30, NOTE), (40, ("data", (-4,))), (50, NOTE))


def with_line(statement, at=10):
    return tuple(sorted((*DATA, (at, statement))))


class Reads(Steps):
    def assert_read(self, place, worth, behind, at=10, next_at=20):
        boxes = tuple(sorted((*PARTS["boxes"], ("b", worth))))
        told = full(boxes=boxes, place=behind, at=next_at, stand="ended" if next_at == 0 else "going")
        self.assert_step(with_line(("read", "b"), at), full(place=place, at=at), told)

    def test_from_the_beginning_on(self):
        self.assert_read((0, 0), 7, (3, 1))

    def test_within_a_line(self):
        self.assert_read((20, 0), 1, (20, 1))
        self.assert_read((20, 1), "two", (20, 2))
        self.assert_read((20, 2), 3, (20, 3))

    def test_on_to_the_next_line(self):
        self.assert_read((3, 1), 1, (20, 1))
        self.assert_read((20, 3), -4, (40, 1))
        self.assert_read((20, 1000), -4, (40, 1))

    def test_from_a_number_that_is_no_data_line(self):
        for place in ((4, 0), (10, 2), (19, 5)):
            self.assert_read(place, 1, (20, 1))
        for place in ((21, 0), (30, 2), (39, 9)):
            self.assert_read(place, -4, (40, 1))

    def test_over_jumps(self):
        self.assert_read((3, 1), 1, (20, 1), at=60, next_at=0)
        self.assert_read((0, 0), 7, (3, 1), at=45, next_at=50)

    def test_a_box_that_is_there(self):
        self.assert_step(with_line(("read", "t")), full(place=(0, 0)),
                         full(place=(3, 1), at=20, boxes=(("a", 1), ("k", 7), ("t", 7))))

    def test_no_data_left(self):
        for place in ((40, 1), (40, 2), (41, 0), (9999, 0)):
            self.assert_fault(("read", "a"), "data", programs=[with_line(("read", "a"))], place=place)
        for place in ((0, 0), (10, 0), (9999, 7)):
            self.assert_fault(("read", "a"), "data", programs=[((5, NOTE), (10, ("read", "a")))], place=place)


class Anews(Steps):
    def test_of_none(self):
        for place in ((0, 0), (85, 1), (9999, 3)):
            self.assert_goes_on(("anew", None), ahead={"place": place}, place=(0, 0))

    def test_of_any_number(self):
        for place in ((0, 0), (85, 1), (9999, 3)):
            for target in (85, 20, 10, 5, 1, 6, 100, 9999):
                self.assert_goes_on(("anew", target), ahead={"place": place}, place=(target, 0))


class DataGoesOn(unittest.TestCase):
    def test_over_jumps_and_calls(self):
        program = (
            (10, ("read", "a")),
            (20, ("call", 90)),
            (30, ("go", 60)),
            (40, ("data", (1, 2))),
            (60, ("read", "b")),
            (70, ("anew", 50)),
            (75, ("read", "c")),
            (80, ("end",)),
            (85, ("data", ("x", "y"))),
            (90, ("read", "d")),
            (95, ("back",)),
        )
        state, steps = walk(program, [])
        self.assertEqual(state[:3], ("ended", 0, (("a", 1), ("b", "x"), ("c", "x"), ("d", 2))))
        self.assertEqual((state[6], steps), ((85, 1), 9))

    def test_in_a_loop_until_none_is_left(self):
        program = ((5, ("data", (3, 4))), *amid(("read", "a"))[1:3], (30, ("say", (box("a"),))), (40, ("go", 10)),
                   (50, ("data", (5,))))
        state, steps = walk(program, [])
        self.assertEqual((state[0], state[1], state[9]), ("faulted", 10, ("data", 10)))
        self.assertEqual((state[11], steps), (((3,), (4,), (5,)), 14))

    def test_anew_reads_again(self):
        program = ((10, ("data", (3, 4))), (20, ("read", "a")), (30, ("read", "b")), (40, ("anew", None)),
                   (50, ("read", "c")), (60, ("set", "d", number(0))), (70, ("read", "d")))
        state, steps = walk(program, [])
        self.assertEqual((state[2], steps), ((("a", 3), ("b", 4), ("c", 3), ("d", 4)), 7))


if __name__ == "__main__":
    unittest.main()
