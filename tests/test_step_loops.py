"""Point 10: steps of loop and again."""

import unittest

from stepping import NOTE, NOUGHT, PARTS, Steps, amid, below, box, full, last, number, text

TOP = 10 ** 12
ELDER = (("loop", "i", 80, 10, -1), ("loop", "k", 81, 3, 2))


def loop(first, to, by, name="i"):
    return ("loop", name, first, to, by)


def boxes_with(name, worth):
    return tuple(sorted({**dict(PARTS["boxes"]), name: worth}.items()))


def closed_program(statement, *agains):
    """The statement at 10, lines behind it at 20, 30 and so on, agains of told names among them."""
    lines = [(5, ("again", "i")), (10, statement)]
    lines += [(20 + 10 * at, NOTE if name is None else ("again", name)) for at, name in enumerate(agains)]
    return tuple(lines)


class LoopsBegun(Steps):
    def assert_begun(self, first, to, by, **ahead):
        """It goes on with a frame more, whether an again is behind or not."""
        pile = ahead.get("pile", ())
        ahead = {**ahead, "pile": pile}
        told = {"pile": (*pile, ("loop", "i", 10, to, by)), "boxes": boxes_with("i", first)}
        expressions = [number(n) if n >= 0 else below(-n) for n in (first, to, by)]
        self.assert_goes_on(loop(*expressions), ahead=ahead, **told)

    def test_upward(self):
        self.assert_begun(1, 3, 1)
        self.assert_begun(-2, 3, 7)
        self.assert_begun(2, 3, TOP)

    def test_downward(self):
        self.assert_begun(3, 1, -1)
        self.assert_begun(3, -1, -9)

    def test_at_its_end(self):
        self.assert_begun(3, 3, 1)
        self.assert_begun(3, 3, -1)
        self.assert_begun(TOP, TOP, TOP)
        self.assert_begun(-TOP, -TOP, -TOP)
        self.assert_begun(0, 0, 1)

    def test_the_box_that_was_there_holds_the_first_worth(self):
        statement = loop(("+", box("a"), number(4)), box("k"), box("a"), name="t")
        told = {"pile": (("loop", "t", 10, 7, 1),), "boxes": (("a", 1), ("k", 7), ("t", 5))}
        self.assert_goes_on(statement, ahead={"pile": ()}, **told)

    def test_all_is_reckoned_by_the_boxes_ahead_of_it(self):
        statement = loop(number(1), box("k"), box("k"), name="k")
        self.assert_goes_on(statement, ahead={"pile": ()}, pile=(("loop", "k", 10, 7, 7),), boxes=boxes_with("k", 1))

    def test_one_of_the_name_and_all_above_it_are_taken_off(self):
        for pile, left in (
            (ELDER, ()),
            (ELDER[::-1], ELDER[1:]),
            ((ELDER[1],) + ELDER, (ELDER[1],)),
            ((("call", 7),) + ELDER, (("call", 7),)),
            ((("loop", "i", 10, 3, 1),), ()),
        ):
            told = (*left, ("loop", "i", 10, 3, 1))
            self.assert_goes_on(loop(number(1), number(3), number(1)), ahead={"pile": pile},
                                pile=told, boxes=boxes_with("i", 1))

    def test_one_of_the_name_beneath_the_topmost_call_stays(self):
        for pile in (ELDER + (("call", 7),), ELDER + (("call", 7), ELDER[1]), (ELDER[0], ("call", 7), ("call", 8))):
            self.assert_begun(1, 3, 1, pile=pile)

    def test_of_two_calls_only_the_frames_above_the_upper_one_count(self):
        pile = (("call", 7), ELDER[0], ("call", 8), ELDER[1], ELDER[0], ELDER[1])
        told = (*pile[:4], ("loop", "i", 10, 3, 1))
        self.assert_goes_on(loop(number(1), number(3), number(1)), ahead={"pile": pile},
                            pile=told, boxes=boxes_with("i", 1))


class LoopsNotBegun(Steps):
    def assert_skipped(self, statement, agains, at, first, pile=(), left=()):
        stand = "ended" if at == 0 else "going"
        told = full(stand=stand, at=at, pile=left, boxes=boxes_with("i", first))
        self.assert_step(closed_program(statement, *agains), full(pile=pile), told)

    def test_just_beyond_the_end(self):
        self.assert_skipped(loop(number(4), number(3), number(1)), (None, "i", None), 40, 4)
        self.assert_skipped(loop(number(2), number(3), below(1)), (None, "i", None), 40, 2)
        self.assert_skipped(loop(number(0), below(1), number(5)), (None, "i", None), 40, 0)
        self.assert_skipped(loop(below(TOP), number(TOP), below(1)), (None, "i", None), 40, -TOP)

    def test_behind_the_next_again_of_the_name(self):
        beyond = loop(number(4), number(3), number(1))
        self.assert_skipped(beyond, ("i", None), 30, 4)
        self.assert_skipped(beyond, ("k", "i", "i", None), 40, 4)
        self.assert_skipped(beyond, ("k", "ii", "i", "k", "i"), 50, 4)

    def test_an_again_in_the_last_line(self):
        self.assert_skipped(loop(number(4), number(3), number(1)), ("i",), 0, 4)
        self.assert_skipped(loop(number(4), number(3), number(1)), (None, "k", "i"), 0, 4)

    def test_frames_of_the_name_are_taken_off_too(self):
        beyond = loop(number(4), number(3), number(1))
        self.assert_skipped(beyond, ("i", None), 30, 4, pile=ELDER, left=())
        self.assert_skipped(beyond, ("i", None), 30, 4, pile=ELDER[::-1], left=ELDER[1:])
        beneath = ELDER + (("call", 7),)
        self.assert_skipped(beyond, ("i", None), 30, 4, pile=beneath, left=beneath)

    def test_a_full_pile_does_not_matter(self):
        calls = tuple(("call", 7) for _ in range(50))
        self.assert_skipped(loop(number(4), number(3), number(1)), ("i", None), 30, 4, pile=calls, left=calls)

    def test_without_an_again_behind(self):
        beyond = loop(number(4), number(3), number(1))
        programs = [closed_program(beyond, *agains) for agains in ((), (None,), ("k", "a"))]
        for pile in ((), ELDER, ELDER + (("call", 7),)):
            self.assert_fault(beyond, "again", programs=programs, pile=pile)


class LoopFaults(Steps):
    def test_kind(self):
        for at in range(3):
            parts = [number(1), number(3), number(1)]
            for wrong in (text("x"), text("1"), box("t")):
                parts[at] = wrong
                self.assert_fault(loop(*parts), "kind", pile=())
                self.assert_fault(loop(*parts), "kind", pile=(("call", 7),) * 50)

    def test_kind_ahead_of_range(self):
        self.assert_fault(loop(text("x"), number(3), number(0)), "kind")
        self.assert_fault(loop(number(1), text("x"), number(0)), "kind")

    def test_range_ahead_of_again_and_pile(self):
        self.assert_fault(loop(number(1), number(3), number(0)), "range")
        self.assert_fault(loop(number(4), number(3), number(0)), "range")
        self.assert_fault(loop(number(3), number(3), number(0)), "range", pile=(("call", 7),) * 50)

    def test_again_ahead_of_pile(self):
        self.assert_fault(loop(number(4), number(3), number(1)), "again", pile=(("call", 7),) * 50)

    def test_within_first(self):
        self.assert_fault(loop(text("x"), NOUGHT, number(0)), "nought")
        self.assert_fault(loop(NOUGHT, box("b"), number(0)), "nought")
        self.assert_fault(loop(number(1), box("b"), NOUGHT), "empty")
        self.assert_fault(loop(text("x"), number(1), box("i")), "empty")

    def test_fifty_frames(self):
        begun = loop(number(1), number(3), number(1))
        calls = (("call", 7),) * 50
        self.assert_fault(begun, "pile", pile=calls)
        self.assert_fault(begun, "pile", pile=(ELDER[0],) + calls[:49])
        self.assert_fault(begun, "pile", pile=(ELDER[1],) * 50)

    def test_forty_nine_frames(self):
        for pile in ((("call", 7),) * 49, (ELDER[1],) * 49):
            self.assert_goes_on(loop(number(1), number(3), number(1)), ahead={"pile": pile},
                                pile=(*pile, ("loop", "i", 10, 3, 1)), boxes=boxes_with("i", 1))

    def test_fifty_frames_with_one_of_the_name_among_them(self):
        for left in ((("call", 7),) * 49, (ELDER[1],) * 20):
            pile = (*left, ELDER[0]) + (ELDER[1],) * (49 - len(left))
            self.assertEqual(len(pile), 50)
            self.assert_goes_on(loop(number(1), number(3), number(1)), ahead={"pile": pile},
                                pile=(*left, ("loop", "i", 10, 3, 1)), boxes=boxes_with("i", 1))


class Agains(Steps):
    PROGRAM = ((10, ("again", "i")), (20, NOTE), (30, NOTE), (40, NOTE))

    def assert_turned(self, held, frame, worth, at, under=(), above=()):
        """It goes on behind the loop's line, and the frame stays; those above don't."""
        state = full(pile=(*under, frame, *above), boxes=boxes_with("i", held))
        told = full(pile=(*under, frame), boxes=boxes_with("i", worth), at=at, stand="ended" if at == 0 else "going")
        self.assert_step(self.PROGRAM, state, told)

    def assert_left(self, held, frame, worth, under=(), above=()):
        """It goes on behind the again's line, and the frame is taken off too."""
        ahead = {"pile": (*under, frame, *above), "boxes": boxes_with("i", held)}
        self.assert_goes_on(("again", "i"), ahead=ahead, pile=under, boxes=boxes_with("i", worth))

    def test_upward(self):
        self.assert_turned(1, ("loop", "i", 20, 3, 1), 2, 30)
        self.assert_turned(2, ("loop", "i", 20, 3, 1), 3, 30)
        self.assert_left(3, ("loop", "i", 20, 3, 1), 4)
        self.assert_left(2, ("loop", "i", 20, 3, 2), 4)
        self.assert_left(100, ("loop", "i", 20, 3, 1), 101)
        self.assert_turned(-100, ("loop", "i", 20, 3, 1), -99, 30)

    def test_downward(self):
        self.assert_turned(3, ("loop", "i", 20, 1, -1), 2, 30)
        self.assert_turned(2, ("loop", "i", 20, 1, -1), 1, 30)
        self.assert_left(1, ("loop", "i", 20, 1, -1), 0)
        self.assert_left(2, ("loop", "i", 20, 1, -2), 0)
        self.assert_left(-100, ("loop", "i", 20, 1, -1), -101)
        self.assert_turned(100, ("loop", "i", 20, 1, -1), 99, 30)

    def test_a_loops_line_that_is_there_no_more_or_is_the_last(self):
        for number_of_loop, at in ((1, 10), (10, 20), (19, 20), (21, 30), (39, 40), (40, 0), (41, 0), (9999, 0)):
            self.assert_turned(1, ("loop", "i", number_of_loop, 3, 1), 2, at)

    def test_inner_loops_are_closed_by_an_outer_again(self):
        inner = (("loop", "k", 30, 3, 1), ("loop", "m", 40, 3, 1))
        under = (("loop", "n", 5, 3, 1), ("call", 7), ("loop", "o", 8, 2, 1))
        self.assert_turned(1, ("loop", "i", 20, 3, 1), 2, 30, under, inner)
        self.assert_left(3, ("loop", "i", 20, 3, 1), 4, under, inner)

    def test_the_topmost_one_of_the_name(self):
        lower = ("loop", "i", 30, 9, 1)
        self.assert_turned(1, ("loop", "i", 20, 3, 1), 2, 30, (lower, ("call", 7)))
        self.assert_left(3, ("loop", "i", 20, 3, 1), 4, (lower, ("call", 7)))
        self.assert_turned(1, ("loop", "i", 20, 3, 1), 2, 30, (lower,))

    def test_without_a_frame_of_the_name_above_the_topmost_call(self):
        for pile in ((), (("call", 7),), (ELDER[1],), (ELDER[0], ("call", 7)), (ELDER[0], ("call", 7), ELDER[1])):
            self.assert_fault(("again", "i"), "again", pile=pile, boxes=boxes_with("i", 1))
            self.assert_fault(("again", "i"), "again", pile=pile)

    def test_of_an_empty_box(self):
        self.assert_fault(("again", "i"), "empty", pile=(ELDER[0],))
        self.assert_fault(("again", "i"), "empty", pile=ELDER, boxes=())

    def test_of_a_text(self):
        for held in ("", "1", "x" * 100):
            self.assert_fault(("again", "i"), "kind", pile=ELDER, boxes=boxes_with("i", held))

    def test_of_a_great_number(self):
        for held, by in ((TOP, 1), (1, TOP), (-TOP, -1), (-1, -TOP), (TOP, TOP)):
            frame = ("loop", "i", 20, 0, by)
            self.assert_fault(("again", "i"), "great", pile=(frame, ELDER[1]), boxes=boxes_with("i", held))
        self.assert_left(TOP - 1, ("loop", "i", 20, 0, 1), TOP)
        self.assert_turned(TOP - 1, ("loop", "i", 20, TOP, 1), TOP, 30)

    def test_the_last_line(self):
        program = last(("again", "k"))
        state = full(pile=(("loop", "k", 5, 8, 1),))
        self.assert_step(program, state, full(pile=(("loop", "k", 5, 8, 1),), boxes=boxes_with("k", 8)))
        state = full(pile=(("loop", "k", 10, 8, 1),))
        told = full(pile=state[5], boxes=boxes_with("k", 8), stand="ended", at=0)
        self.assert_step(program, state, told)
        self.assert_step(amid(("again", "k")), state, full(pile=state[5], boxes=boxes_with("k", 8), at=20))


if __name__ == "__main__":
    unittest.main()
