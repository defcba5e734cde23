"""Point 9: steps of the lines that jump nowhere."""

import unittest

from numberedlines.walk import step
from stepping import INPUTS, NOTE, NOUGHT, PARTS, Steps, amid, below, box, full, last, number, text
from things import is_same

TOP = 10 ** 12
HUNDRED = "x" * 100


class NotGoing(Steps):
    def test_a_state_that_is_not_going_is_told_as_it_is(self):
        for statement in (("set", "a", number(2)), ("end",), ("go", 5), ("ask", "a"), ("goby", number(3))):
            for stand in ("stopped", "asks", "faulted"):
                for program in (amid(statement), last(statement)):
                    state = full(stand=stand)
                    self.assert_step(program, state, state)
            ended = full(stand="ended", at=0)
            self.assert_step(amid(statement), ended, ended)
            faulted = full(stand="faulted", at=0)
            self.assert_step(amid(statement), faulted, faulted)

    def test_of_a_program_without_lines(self):
        for stand in ("stopped", "asks", "faulted", "ended"):
            state = full(stand=stand, at=0)
            self.assert_step((), state, state)
        self.assert_step((), full(at=0), full(at=0, stand="ended"))


class SetBoxes(Steps):
    def test_a_box_that_is_not_there_yet(self):
        a, k, t = PARTS["boxes"]
        self.assert_goes_on(("set", "b", number(5)), boxes=(a, ("b", 5), k, t))
        self.assert_goes_on(("set", "aa", number(5)), boxes=(a, ("aa", 5), k, t))
        self.assert_goes_on(("set", "z", text("")), boxes=(a, k, t, ("z", "")))
        self.assert_goes_on(("set", "abcdefgh", below(TOP)), boxes=(a, ("abcdefgh", -TOP), k, t))
        self.assert_goes_on(("set", "a", number(0)), ahead={"boxes": ()}, boxes=(("a", 0),))

    def test_a_box_that_is_there_holds_the_new_worth(self):
        a, k, t = PARTS["boxes"]
        self.assert_goes_on(("set", "a", text(HUNDRED)), boxes=(("a", HUNDRED), k, t))
        self.assert_goes_on(("set", "k", ("+", box("k"), number(1))), boxes=(a, ("k", 8), t))
        self.assert_goes_on(("set", "t", box("k")), boxes=(a, k, ("t", 7)))
        self.assert_goes_on(("set", "a", number(1)))

    def test_by_all_that_the_state_has(self):
        a, k, t = PARTS["boxes"]
        self.assert_goes_on(("set", "b", ("cell", "r", number(1))), boxes=(a, ("b", "one"), k, t))
        self.assert_goes_on(("set", "b", ("fit", "g", number(5))), boxes=(a, ("b", 6), k, t))
        self.assert_goes_on(("set", "b", ("why",)), boxes=(a, ("b", "great"), k, t))
        self.assert_goes_on(("set", "b", ("where",)), boxes=(a, ("b", 95), k, t))

    def test_each_fault_of_an_expression(self):
        deep = (("f", "x", ("fit", "f", box("x"))),)
        self.assert_fault(("set", "a", box("b")), "empty")
        self.assert_fault(("set", "a", ("why",)), "empty", fault=None)
        self.assert_fault(("set", "a", ("where",)), "empty", fault=None)
        self.assert_fault(("set", "a", ("cell", "a", number(0))), "norow")
        self.assert_fault(("set", "a", ("cell", "r", text("0"))), "kind")
        self.assert_fault(("set", "a", ("cell", "r", number(3))), "range")
        self.assert_fault(("set", "a", NOUGHT), "nought")
        self.assert_fault(("set", "a", ("fit", "h", number(0))), "nofit")
        self.assert_fault(("set", "a", ("fit", "h", NOUGHT)), "nofit")
        self.assert_fault(("set", "a", ("fit", "f", number(0))), "deep", fits=deep)
        self.assert_fault(("set", "a", ("*", number(TOP), number(2))), "great")
        self.assert_fault(("set", "a", ("+", text(HUNDRED), text("x"))), "long")

    def test_twenty_fits_in_one_another_and_one_more(self):
        a, k, t = PARTS["boxes"]
        names = ["f" + chr(ord("a") + at) for at in range(21)]
        chain = tuple((name, "x", ("fit", inner, box("x"))) for name, inner in zip(names, names[1:]))
        twenty = (*chain[:19], (names[19], "x", ("+", box("x"), number(1))))
        self.assertEqual(len(twenty), 20)
        self.assert_goes_on(("set", "b", ("fit", "fa", number(5))), ahead={"fits": twenty}, boxes=(a, ("b", 6), k, t))
        one_more = (*chain, (names[20], "x", box("x")))
        self.assert_fault(("set", "b", ("fit", "fa", number(5))), "deep", fits=one_more)
        self.assert_goes_on(("set", "b", ("fit", "fb", number(5))), ahead={"fits": one_more}, boxes=(a, ("b", 5), k, t))


class SetCells(Steps):
    def test_a_cell_holds_the_worth(self):
        r, s = PARTS["rows"]
        self.assert_goes_on(("setcell", "r", number(0), text("x")), rows=(("r", ("x", "one", 2)), s))
        self.assert_goes_on(("setcell", "r", number(1), number(9)), rows=(("r", (0, 9, 2)), s))
        self.assert_goes_on(("setcell", "r", number(2), below(TOP)), rows=(("r", (0, "one", -TOP)), s))
        self.assert_goes_on(("setcell", "s", number(0), box("a")), rows=(r, ("s", (1,))))
        hundred = (("a", tuple(range(100))),)
        self.assert_goes_on(("setcell", "a", number(99), number(0)), ahead={"rows": hundred},
                            rows=(("a", (*range(99), 0)),))
        self.assert_fault(("setcell", "a", number(100), number(0)), "range", rows=hundred)

    def test_the_place_is_reckoned_ahead_of_the_worth(self):
        self.assert_fault(("setcell", "r", NOUGHT, box("b")), "nought")
        self.assert_fault(("setcell", "r", box("b"), NOUGHT), "empty")

    def test_both_are_reckoned_ahead_of_the_row(self):
        for name, place in (("a", number(0)), ("r", text("x")), ("r", number(3)), ("r", below(1))):
            self.assert_fault(("setcell", name, place, NOUGHT), "nought")

    def test_norow_then_kind_then_range(self):
        self.assert_fault(("setcell", "a", number(0), number(0)), "norow")
        self.assert_fault(("setcell", "a", text("x"), number(0)), "norow")
        self.assert_fault(("setcell", "f", number(3), number(0)), "norow")
        self.assert_fault(("setcell", "r", text("x"), number(0)), "kind")
        self.assert_fault(("setcell", "r", text("0"), number(0)), "kind")
        for place in (number(3), below(1), number(TOP), below(3)):
            self.assert_fault(("setcell", "r", place, number(0)), "range")


class SayAndAsk(Steps):
    def test_say_of_none_and_of_five(self):
        said = PARTS["said"]
        self.assert_goes_on(("say", ()), said=(*said, ()))
        self.assert_goes_on(("say", (box("t"),)), said=(*said, ("two",)))
        five = (number(1), box("a"), text("x"), ("cell", "r", number(1)), below(3))
        self.assert_goes_on(("say", five), said=(*said, (1, 1, "x", "one", -3)))
        self.assert_goes_on(("say", ()), ahead={"said": ()}, said=((),))

    def test_say_with_a_fault_says_nothing(self):
        for at in range(5):
            told = [number(1)] * 5
            told[at] = NOUGHT
            self.assert_fault(("say", tuple(told)), "nought")
        self.assert_fault(("say", (number(1), box("b"), NOUGHT)), "empty")
        self.assert_fault(("say", (NOUGHT, box("b"))), "nought")

    def test_ask_with_an_input_left(self):
        a, k, t = PARTS["boxes"]
        self.assert_goes_on(("ask", "a"), boxes=(("a", 33), k, t), asked=3)
        self.assert_goes_on(("ask", "b"), boxes=(a, ("b", 33), k, t), asked=3)
        self.assert_goes_on(("ask", "z"), ahead={"asked": 1}, boxes=(a, k, t, ("z", "in")), asked=2)
        self.assert_goes_on(("ask", "t"), ahead={"asked": 0}, boxes=(a, k, ("t", 11)), asked=1)
        self.assert_goes_on(("ask", "t"), ahead={"asked": 0}, inputs=[""], boxes=(a, k, ("t", "")), asked=1)

    def test_ask_with_no_input_left(self):
        for program in (amid(("ask", "a")), last(("ask", "a"))):
            for asked, inputs in ((3, INPUTS), (4, INPUTS), (0, []), (2, [1, 2]), (1000, [0])):
                self.assert_step(program, full(asked=asked), full(asked=asked, stand="asks"), inputs)
            for trap, trapped in ((5, False), (5, True), (6, False)):
                state = full(asked=3, trap=trap, trapped=trapped)
                self.assert_step(program, state, full(asked=3, trap=trap, trapped=trapped, stand="asks"))


class Rows(Steps):
    def test_rows_of_so_many_noughts(self):
        r, s = PARTS["rows"]
        self.assert_goes_on(("row", "q", number(1)), rows=(("q", (0,)), r, s))
        self.assert_goes_on(("row", "z", number(100)), rows=(r, s, ("z", (0,) * 100)))
        self.assert_goes_on(("row", "z", box("k")), ahead={"rows": ()}, rows=(("z", (0,) * 7),))

    def test_a_row_that_was_there_already(self):
        r, s = PARTS["rows"]
        self.assert_goes_on(("row", "r", number(2)), rows=(("r", (0, 0)), s))
        self.assert_goes_on(("row", "s", number(1)), rows=(r, ("s", (0,))))

    def test_wrong_lengths(self):
        for name in ("r", "q"):
            for length in (text("x"), text("1"), text("")):
                self.assert_fault(("row", name, length), "kind")
            for length in (number(0), number(101), below(1), number(TOP), below(TOP)):
                self.assert_fault(("row", name, length), "range")
            self.assert_fault(("row", name, NOUGHT), "nought")


class Fits(Steps):
    def test_a_fit_is_there_or_another_one_now(self):
        f, g = PARTS["fits"]
        self.assert_goes_on(("fit", "h", "y", box("y")), fits=(f, g, ("h", "y", box("y"))))
        self.assert_goes_on(("fit", "a", "a", number(1)), fits=(("a", "a", number(1)), f, g))
        self.assert_goes_on(("fit", "f", "y", number(2)), fits=(("f", "y", number(2)), g))
        self.assert_goes_on(("fit", "g", "k", number(2)), ahead={"fits": ()}, fits=(("g", "k", number(2)),))

    def test_its_expression_is_not_reckoned(self):
        f, g = PARTS["fits"]
        for expression in (NOUGHT, box("none"), ("fit", "none", number(1)), ("cell", "none", text("x"))):
            self.assert_goes_on(("fit", "h", "y", expression), fits=(f, g, ("h", "y", expression)))


class NothingStopAndEnd(Steps):
    def test_data_and_notes_do_nothing(self):
        for statement in (("data", (1,)), ("data", (1, "x", -3, TOP, "", 0)), NOTE, ("note", "stop"), ("note", "x" * 100)):
            self.assert_goes_on(statement)
            self.assert_goes_on(statement, ahead={"place": (10, 0), "fault": None, "trap": 5, "trapped": True})

    def test_stop(self):
        self.assert_step(amid(("stop",)), full(), full(stand="stopped", at=20))
        self.assert_step(last(("stop",)), full(), full(stand="ended", at=0))

    def test_end(self):
        for program in (amid(("end",)), last(("end",))):
            self.assert_step(program, full(), full(stand="ended", at=0))

    def test_lines_behind_are_those_of_the_next_number(self):
        program = ((1, NOTE), (2, NOTE), (9998, NOTE), (9999, NOTE))
        for at, behind in ((1, 2), (2, 9998), (9998, 9999)):
            self.assert_step(program, full(at=at), full(at=behind))
        self.assert_step(program, full(at=9999), full(at=0, stand="ended"))


class TellsTheAskersOwn(unittest.TestCase):
    def test_what_is_done_to_the_inputs_later_changes_nothing(self):
        inputs = [1, 2]
        program = amid(("ask", "a"))
        told = step(program, full(asked=1), inputs)
        before = repr(told)
        inputs[1] = 99
        self.assertEqual(repr(told), before)
        self.assertTrue(is_same(step(program, full(asked=1), [1, 2]), told))


if __name__ == "__main__":
    unittest.main()
