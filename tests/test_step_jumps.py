"""Point 9: steps of jumps, choices, calls and back."""

import unittest

from stepping import NOTE, NOUGHT, PARTS, Steps, amid, below, box, full, last, number, text

TOP = 10 ** 12
CALLS = tuple(("call", 1000 + height) for height in range(50))
LOOPS = tuple(("loop", "x" * (height % 8 + 1), 1000 + height, 0, 1) for height in range(50))


class Jumps(Steps):
    def test_go_to_each_line(self):
        for target in (5, 10, 20, 30, 85, 99):
            self.assert_step(amid(("go", target)), full(), full(at=target))
        self.assert_step(last(("go", 5)), full(), full(at=5))
        self.assert_step(last(("go", 10)), full(), full(at=10))

    def test_go_to_a_line_that_there_is_not(self):
        for target in (1, 4, 6, 11, 86, 100, 9999):
            self.assert_fault(("go", target), "noline")

    def test_goby(self):
        for target in (5, 10, 20, 99):
            self.assert_step(amid(("goby", number(target))), full(), full(at=target))
        self.assert_step(amid(("goby", ("+", box("k"), number(13)))), full(), full(at=20))
        self.assert_step(last(("goby", number(5))), full(), full(at=5))

    def test_goby_a_line_that_there_is_not_or_a_text(self):
        for target in (number(0), number(11), below(10), number(TOP), below(TOP), number(10000)):
            self.assert_fault(("goby", target), "noline")
        for target in (text("5"), text(""), box("t")):
            self.assert_fault(("goby", target), "kind")
        self.assert_fault(("goby", NOUGHT), "nought")

    def test_when_it_is_not_nought(self):
        for worth in (number(1), below(1), number(TOP), below(TOP), box("k")):
            self.assert_step(amid(("when", worth, 99)), full(), full(at=99))
            self.assert_step(amid(("when", worth, 10)), full(), full(at=10))
            self.assert_step(last(("when", worth, 5)), full(), full(at=5))
            self.assert_fault(("when", worth, 6), "noline")

    def test_when_it_is_nought(self):
        for target in (5, 10, 6, 9999):
            self.assert_goes_on(("when", number(0), target))
            self.assert_goes_on(("when", ("-", box("k"), number(7)), target))

    def test_when_of_a_text(self):
        for target in (5, 6):
            for worth in (text(""), text("0"), box("t")):
                self.assert_fault(("when", worth, target), "kind")
            self.assert_fault(("when", NOUGHT, target), "nought")


class Picks(Steps):
    def test_the_picked_one_is_gone_to(self):
        numbers = (99, 5, 20, 10, 5, 85)
        for at, target in enumerate(numbers):
            self.assert_step(amid(("pick", number(at + 1), "go", numbers)), full(), full(at=target))
        self.assert_step(last(("pick", number(1), "go", (5,))), full(), full(at=5))

    def test_the_picked_one_is_called(self):
        numbers = (99, 5, 20, 10, 5, 85)
        pile = (*PARTS["pile"], ("call", 10))
        for at, target in enumerate(numbers):
            self.assert_step(amid(("pick", number(at + 1), "call", numbers)), full(), full(at=target, pile=pile))
        self.assert_step(last(("pick", number(1), "call", (5,))), full(), full(at=5, pile=pile))

    def test_where_there_is_none_it_goes_on(self):
        for way in ("go", "call"):
            for worth in (number(0), number(3), below(1), below(2), number(TOP), below(TOP)):
                self.assert_goes_on(("pick", worth, way, (5, 10)))
                self.assert_goes_on(("pick", worth, way, (6, 7)))
            self.assert_goes_on(("pick", number(7), way, (5,) * 6))
            self.assert_goes_on(("pick", number(3), way, (5, 10)), ahead={"pile": CALLS})

    def test_of_a_text(self):
        for way in ("go", "call"):
            for worth in (text("1"), text("")):
                self.assert_fault(("pick", worth, way, (5, 6)), "kind")
            self.assert_fault(("pick", NOUGHT, way, (5, 6)), "nought")

    def test_of_a_line_that_there_is_not(self):
        for way in ("go", "call"):
            self.assert_fault(("pick", number(2), way, (5, 6)), "noline")
            self.assert_fault(("pick", number(1), way, (6, 5)), "noline")
            self.assert_fault(("pick", number(1), way, (6, 5)), "noline", pile=CALLS)

    def test_a_full_pile(self):
        self.assert_fault(("pick", number(1), "call", (5,)), "pile", pile=CALLS)
        self.assert_step(amid(("pick", number(1), "go", (5,))), full(pile=CALLS), full(pile=CALLS, at=5))


class Calls(Steps):
    def test_call_lays_a_frame_of_its_own_line(self):
        for target in (5, 10, 20, 99):
            self.assert_step(amid(("call", target)), full(), full(at=target, pile=(*PARTS["pile"], ("call", 10))))
            self.assert_step(amid(("call", target)), full(pile=()), full(at=target, pile=(("call", 10),)))
        self.assert_step(last(("call", 5)), full(pile=()), full(at=5, pile=(("call", 10),)))

    def test_a_line_that_there_is_not(self):
        for pile in ((), PARTS["pile"], CALLS, LOOPS):
            self.assert_fault(("call", 6), "noline", pile=pile)

    def test_piles_of_forty_nine_and_of_fifty(self):
        for frames in (CALLS, LOOPS):
            few = frames[:49]
            self.assert_step(amid(("call", 5)), full(pile=few), full(at=5, pile=(*few, ("call", 10))))
            self.assert_fault(("call", 5), "pile", pile=frames)


class Backs(Steps):
    def assert_back(self, pile, left, at):
        program = ((10, ("back",)), (20, NOTE), (30, NOTE))
        stand = "ended" if at == 0 else "going"
        self.assert_step(program, full(pile=pile), full(pile=left, stand=stand, at=at))

    def test_it_goes_on_behind_the_calls_line(self):
        self.assert_back((("call", 10),), (), 20)
        self.assert_back((("call", 20),), (), 30)
        self.assert_back((("call", 30),), (), 0)

    def test_the_topmost_call(self):
        self.assert_back((("call", 10), ("call", 20)), (("call", 10),), 30)
        self.assert_back((("call", 20), ("call", 10)), (("call", 20),), 20)
        self.assert_back(CALLS[:49] + (("call", 10),), CALLS[:49], 20)

    def test_back_over_loops(self):
        one, other = ("loop", "i", 20, 9, 1), ("loop", "k", 30, 9, 1)
        self.assert_back((("call", 10), one), (), 20)
        self.assert_back((other, ("call", 10), one, other), (other,), 20)
        self.assert_back((("call", 20), one, ("call", 10), other), (("call", 20), one), 20)
        self.assert_back((("call", 20),) + LOOPS[:49], (), 30)

    def test_a_calls_line_that_is_there_no_more(self):
        self.assert_back((("call", 1),), (), 10)
        self.assert_back((("call", 11),), (), 20)
        self.assert_back((("call", 29),), (), 30)
        self.assert_back((("call", 31),), (), 0)
        self.assert_back((("call", 9999), ("loop", "i", 9, 9, 1)), (), 0)

    def test_without_a_call(self):
        for pile in ((), LOOPS, LOOPS[:1]):
            self.assert_fault(("back",), "back", pile=pile)


if __name__ == "__main__":
    unittest.main()
