"""Points 15 and 16: programs renumbered, states led, programs merged."""

import unittest

from numberedlines.errors import LineError, NoTarget, Reckoned, TooGreat, TooMany
from numberedlines.renumber import led_state, merged, renumbered
from numberedlines.states import first_state, is_state
from numberedlines.walk import states_on
from numberedlines.words import is_program
from programs import Chance
from stepping import NOTE, PARTS, box, full, number, text
from things import is_plain, is_same

WHERE = ("where",)


def seven_around(expression):
    for _ in range(7):
        expression = ("not", expression)
    return expression


class Renumbered(unittest.TestCase):
    def assert_told(self, program, told, pairs, **how):
        self.assertTrue(is_program(program), program)
        before = repr(program)
        for _ in range(2):
            answer = renumbered(program, **how)
            self.assertTrue(is_same(answer, (told, pairs)), (answer, told, pairs))
            self.assertTrue(is_plain(answer))
            self.assertTrue(is_program(answer[0]))
            answer[1].clear()
        self.assertEqual(repr(program), before)

    def assert_refused(self, program, error, fields=(), **how):
        self.assertTrue(is_program(program), program)
        before = repr(program)
        with self.assertRaises(error) as caught:
            renumbered(program, **how)
        self.assertIsInstance(caught.exception, LineError)
        names = {Reckoned: ("line",), NoTarget: ("line", "target"), TooGreat: ()}[error]
        self.assertTrue(is_same(tuple(getattr(caught.exception, name) for name in names), fields))
        self.assertEqual(repr(program), before)

    def test_of_no_lines(self):
        self.assert_told((), (), [])
        self.assert_told((), (), [], first=9999, step=9999)
        self.assert_told((), (), [], first=10000, step=10000)

    def test_by_tens_where_nothing_is_told(self):
        program = ((1, NOTE), (2, NOTE), (9999, NOTE))
        self.assert_told(program, ((10, NOTE), (20, NOTE), (30, NOTE)), [(1, 10), (2, 20), (9999, 30)])
        self.assert_told(program, ((7, NOTE), (17, NOTE), (27, NOTE)), [(1, 7), (2, 17), (9999, 27)], first=7)
        self.assert_told(program, ((10, NOTE), (13, NOTE), (16, NOTE)), [(1, 10), (2, 13), (9999, 16)], step=3)

    def test_first_and_step_at_their_bounds(self):
        program = ((10, NOTE), (20, NOTE), (30, ("go", 20)))
        self.assert_told(program, ((1, NOTE), (2, NOTE), (3, ("go", 2))), [(10, 1), (20, 2), (30, 3)], first=1, step=1)
        told = ((9997, NOTE), (9998, NOTE), (9999, ("go", 9998)))
        self.assert_told(program, told, [(10, 9997), (20, 9998), (30, 9999)], first=9997, step=1)
        told = ((1, NOTE), (5000, NOTE), (9999, ("go", 5000)))
        self.assert_told(program, told, [(10, 1), (20, 5000), (30, 9999)], first=1, step=4999)
        self.assert_told(((10, NOTE),), ((9999, NOTE),), [(10, 9999)], first=9999, step=9999)
        hundred = tuple((at + 1, NOTE) for at in range(100))
        self.assertEqual(renumbered(hundred, first=9900, step=1)[0][-1][0], 9999)
        self.assertEqual(renumbered(hundred)[0][-1][0], 1000)

    def test_too_great(self):
        program = ((10, NOTE), (20, NOTE), (30, ("go", 20)))
        for first, step in ((9998, 1), (1, 5000), (9999, 1), (10000, 1), (1, 10 ** 9)):
            self.assert_refused(program, TooGreat, first=first, step=step)
        self.assert_refused(((10, NOTE),), TooGreat, first=10000)
        self.assert_refused(tuple((at + 1, NOTE) for at in range(100)), TooGreat, first=9901, step=1)

    def test_every_statement_that_names_a_line_is_led(self):
        program = (
            (3, ("go", 9)), (4, ("call", 3)), (5, ("when", box("a"), 4)), (6, ("pick", box("a"), "go", (3, 9, 3, 4, 5, 6))),
            (7, ("pick", box("a"), "call", (9,))), (8, ("anew", 6)), (9, ("trap", 7)), (11, ("anew", None)),
            (12, ("trap", 0)), (13, ("anew", 13)),
        )
        told = (
            (100, ("go", 106)), (101, ("call", 100)), (102, ("when", box("a"), 101)),
            (103, ("pick", box("a"), "go", (100, 106, 100, 101, 102, 103))), (104, ("pick", box("a"), "call", (106,))),
            (105, ("anew", 103)), (106, ("trap", 104)), (107, ("anew", None)), (108, ("trap", 0)), (109, ("anew", 109)),
        )
        pairs = [(3, 100), (4, 101), (5, 102), (6, 103), (7, 104), (8, 105), (9, 106), (11, 107), (12, 108), (13, 109)]
        self.assert_told(program, told, pairs, first=100, step=1)

    def test_all_other_statements_stay(self):
        program = tuple(enumerate((
            ("set", "a", number(3)), ("setcell", "r", number(3), text("4")), ("say", (number(3), number(4))), ("say", ()),
            ("ask", "a"), ("back",), ("loop", "i", number(3), number(4), number(5)), ("again", "i"), ("data", (3, 4, "5")),
            ("read", "a"), ("row", "r", number(3)), ("fit", "f", "x", number(3)), ("retry",), ("pass",), ("stop",),
            ("end",), ("note", "3 4"), ("say", (text("where"), ("why",), box("goby"))), ("note", "where"),
        ), start=3))
        told = tuple((10 * (at + 1), statement) for at, (_, statement) in enumerate(program))
        self.assert_told(program, told, [(old[0], new[0]) for old, new in zip(program, told)])

    def test_numbers_that_are_new_and_old_at_once(self):
        program = ((10, ("go", 20)), (20, ("go", 30)), (30, ("go", 10)))
        self.assert_told(program, ((20, ("go", 30)), (30, ("go", 40)), (40, ("go", 20))),
                         [(10, 20), (20, 30), (30, 40)], first=20)
        self.assert_told(program, program, [(10, 10), (20, 20), (30, 30)])

    def test_goby_is_refused(self):
        self.assert_refused(((5, ("goby", number(5))),), Reckoned, (5,))
        self.assert_refused(((5, NOTE), (7, ("goby", number(5))), (9, ("goby", number(5)))), Reckoned, (7,))

    def test_where_is_refused_in_each_statement_and_at_each_depth(self):
        for depth in range(8):
            expression = WHERE
            for _ in range(depth):
                expression = ("not", expression)
            self.assert_refused(((5, NOTE), (7, ("set", "a", expression))), Reckoned, (7,))
        for expression in (("cell", "r", WHERE), ("fit", "f", WHERE), ("size", WHERE), ("+", WHERE, number(1)),
                           ("+", number(1), WHERE), ("part", WHERE, number(1), number(1)),
                           ("part", text(""), number(1), WHERE), ("part", text(""), WHERE, number(1))):
            self.assert_refused(((7, ("say", (expression,))),), Reckoned, (7,))
        one = number(1)
        for statement in (
            ("set", "a", WHERE), ("setcell", "r", WHERE, one), ("setcell", "r", one, WHERE), ("say", (WHERE,)),
            ("say", (one, one, one, one, WHERE)), ("when", WHERE, 7), ("pick", WHERE, "go", (7,)),
            ("pick", WHERE, "call", (7,)), ("loop", "i", WHERE, one, one), ("loop", "i", one, WHERE, one),
            ("loop", "i", one, one, WHERE), ("row", "r", WHERE), ("fit", "f", "x", WHERE),
            ("fit", "f", "x", seven_around(WHERE)),
        ):
            self.assert_refused(((7, statement), (8, ("goby", one))), Reckoned, (7,))

    def test_a_line_that_there_is_not(self):
        for statement in (("go", 6), ("call", 6), ("when", number(0), 6), ("pick", number(0), "go", (6,)),
                          ("pick", number(0), "call", (7, 6)), ("anew", 6), ("trap", 6)):
            self.assert_refused(((5, NOTE), (7, statement), (9, ("go", 8))), NoTarget, (7, 6))

    def test_the_first_line_and_the_first_number_in_it(self):
        program = ((5, ("pick", number(1), "go", (5, 9, 8, 6))), (7, ("go", 1)))
        self.assert_refused(program, NoTarget, (5, 9))
        self.assert_refused(((5, ("go", 10)), (7, ("go", 1))), NoTarget, (5, 10))

    def test_too_great_ahead_of_reckoned_ahead_of_no_target(self):
        program = ((5, ("go", 6)), (7, ("goby", number(5))))
        self.assert_refused(program, TooGreat, first=9999)
        self.assert_refused(program, Reckoned, (7,))
        self.assert_refused(((5, ("go", 6)), (7, ("say", (WHERE,)))), Reckoned, (7,))
        self.assert_refused(((5, ("go", 6)), (7, NOTE)), TooGreat, first=9999)


PAIRS = [(10, 3), (20, 10), (30, 20), (70, 40), (80, 50), (85, 60), (95, 70)]


class LedState(unittest.TestCase):
    def assert_led(self, state, told, pairs=PAIRS):
        pairs = list(pairs)
        before = repr((state, pairs))
        for _ in range(2):
            answer = led_state(state, pairs)
            self.assertTrue(is_same(answer, told), (answer, told))
            self.assertTrue(is_plain(answer))
        self.assertEqual(repr((state, pairs)), before)

    def assert_refused(self, state, target, pairs=PAIRS):
        with self.assertRaises(NoTarget) as caught:
            led_state(state, pairs)
        self.assertTrue(is_same((caught.exception.line, caught.exception.target), (0, target)))

    def test_each_part_that_names_a_line(self):
        led = {"at": 3, "pile": (("call", 40), ("loop", "i", 50, 10, -1)), "place": (60, 1), "fault": ("great", 70)}
        self.assert_led(full(), full(**led))
        self.assert_led(full(at=20), full(**{**led, "at": 10}))
        self.assert_led(full(trap=30), full(**{**led, "trap": 20}))
        self.assert_led(full(place=(10, 99)), full(**{**led, "place": (3, 99)}))
        self.assert_led(full(fault=("kind", 30)), full(**{**led, "fault": ("kind", 20)}))

    def test_nought_and_none_stay(self):
        state = full(stand="ended", at=0, pile=(), place=(0, 5), trap=0, fault=None)
        self.assert_led(state, state)
        self.assert_led(state, state, pairs=[])
        self.assert_led(first_state(()), first_state(()), pairs=[])
        state = full(stand="faulted", at=0, pile=(), place=(0, 0), fault=None, trap=10)
        self.assert_led(state, full(stand="faulted", at=0, pile=(), place=(0, 0), fault=None, trap=3))

    def test_of_each_stand(self):
        for stand in ("going", "stopped", "asks", "faulted"):
            state = full(stand=stand, trapped=True, pile=(), place=(0, 0), fault=None)
            self.assert_led(state, full(stand=stand, trapped=True, pile=(), place=(0, 0), fault=None, at=3))

    def test_frames(self):
        pile = (("loop", "i", 10, 20, 30), ("call", 20), ("call", 10), ("loop", "k", 30, -10, -20))
        led = (("loop", "i", 3, 20, 30), ("call", 10), ("call", 3), ("loop", "k", 20, -10, -20))
        self.assert_led(full(pile=pile, place=(0, 0), fault=None), full(pile=led, place=(0, 0), fault=None, at=3))

    def test_worths_that_look_like_numbers_of_lines_stay(self):
        parts = {"boxes": (("a", 10),), "rows": (("r", (10, 20)),), "fits": (("f", "x", number(10)),), "asked": 10,
                 "said": ((10, 20),), "pile": (), "place": (0, 10), "fault": None}
        self.assert_led(full(**parts), full(**parts, at=3))

    def test_a_number_that_the_list_has_not(self):
        self.assert_refused(full(at=11), 11)
        self.assert_refused(full(pile=(("call", 10), ("call", 11))), 11)
        self.assert_refused(full(pile=(("loop", "i", 12, 10, 10),)), 12)
        self.assert_refused(full(place=(11, 0)), 11)
        self.assert_refused(full(trap=11), 11)
        self.assert_refused(full(fault=("kind", 11)), 11)
        self.assert_refused(full(), 10, pairs=[])
        self.assert_refused(full(), 10, pairs=[(11, 10)])

    def test_which_number_is_told_first(self):
        parts = {"at": 11, "pile": (("call", 10), ("loop", "i", 12, 10, 1), ("call", 13)), "place": (14, 0), "trap": 15,
                 "fault": ("kind", 16)}
        for name, mended, target in (("at", 10, 11), ("pile", (), 12), ("place", (0, 0), 14), ("trap", 0, 15)):
            self.assert_refused(full(**parts), target)
            parts[name] = mended
        self.assert_refused(full(**parts), 16)
        self.assert_refused(full(pile=(("call", 13), ("loop", "i", 12, 10, 1))), 13)

    def test_a_fit_that_asks_for_where(self):
        for expression in (WHERE, seven_around(WHERE), ("+", number(1), WHERE), ("fit", "f", WHERE)):
            for state in (full(fits=(("f", "x", expression),)), full(fits=(*PARTS["fits"], ("h", "x", expression))),
                          full(fits=(("a", "x", expression), *PARTS["fits"]), at=11)):
                with self.assertRaises(Reckoned) as caught:
                    led_state(state, PAIRS)
                self.assertTrue(is_same(caught.exception.line, 0))

    def test_the_text_where_does_not_matter(self):
        fits = (("f", "x", ("+", text("where"), ("why",))),)
        state = full(fits=fits, pile=(), place=(0, 0), fault=None)
        self.assert_led(state, full(fits=fits, pile=(), place=(0, 0), fault=None, at=3))


class TheSameWalk(unittest.TestCase):
    def assert_alike(self, program, inputs, state=None, **how):
        told, pairs = renumbered(program, **how)
        states = states_on(program, inputs, state=state, most=60)
        led = [led_state(one, pairs) for one in states]
        self.assertEqual(states_on(told, inputs, state=led[0], most=60), led)
        for one in led:
            self.assertTrue(is_state(told, one))

    def test_of_a_told_program(self):
        program = (
            (1, ("trap", 90)), (2, ("fit", "f", "x", ("*", box("x"), number(2)))), (4, ("call", 50)),
            (8, ("pick", box("a"), "call", (50, 60))), (9, ("say", (box("a"), ("why",)))), (11, ("go", 9999)),
            (50, ("loop", "a", number(1), number(2), number(1))), (51, ("read", "b")), (52, ("again", "a")), (53, ("back",)),
            (60, ("data", (1, 2, 3))), (61, ("anew", 60)), (62, ("back",)), (90, ("say", (("why",),))), (91, ("pass",)),
            (9999, ("say", (("fit", "f", number(3)),))),
        )
        for how in ({}, {"first": 1, "step": 1}, {"first": 9000, "step": 50}):
            self.assert_alike(program, [], **how)

    def test_by_chance(self):
        renamed = 0
        for seed in range(400):
            chance = Chance(seed, led=True)
            program, inputs = chance.program(), chance.inputs()
            self.assert_alike(program, inputs)
            self.assert_alike(program, inputs, first=1, step=1)
            at, other = chance.number(), chance.number()
            state = full(at=at, pile=(("call", other), ("loop", "a", at, 9, 1)), place=(other, 1), trap=other, asked=0,
                         fault=("kind", at))
            self.assert_alike(program, inputs, state=state, first=7, step=300)
            renamed += program != renumbered(program)[0]
        self.assertGreater(renamed, 300)


class Merged(unittest.TestCase):
    def assert_told(self, one, other, told):
        before = repr((one, other))
        for _ in range(2):
            answer = merged(one, other)
            self.assertTrue(is_same(answer, told), (answer, told))
            self.assertTrue(is_plain(answer))
            self.assertTrue(is_program(answer))
        self.assertEqual(repr((one, other)), before)

    def test_all_lines_of_both(self):
        one, other = ((10, ("end",)), (30, NOTE)), ((5, ("stop",)), (20, ("go", 10)), (40, ("back",)))
        told = ((5, ("stop",)), (10, ("end",)), (20, ("go", 10)), (30, NOTE), (40, ("back",)))
        self.assert_told(one, other, told)
        self.assert_told(other, one, told)

    def test_of_one_number_the_seconds(self):
        one, other = ((10, ("end",)), (20, NOTE), (30, NOTE)), ((10, ("stop",)), (30, ("back",)))
        self.assert_told(one, other, ((10, ("stop",)), (20, NOTE), (30, ("back",))))
        self.assert_told(other, one, one)
        self.assert_told(one, one, one)

    def test_of_none(self):
        program = ((10, ("end",)), (20, NOTE))
        self.assert_told((), (), ())
        self.assert_told(program, (), program)
        self.assert_told((), program, program)

    def test_a_hundred_lines_and_one_more(self):
        hundred = tuple((at + 1, NOTE) for at in range(100))
        self.assert_told(hundred[:50], hundred[50:], hundred)
        self.assert_told(hundred, hundred, hundred)
        self.assert_told(hundred, ((100, ("end",)),), hundred[:99] + ((100, ("end",)),))
        many = tuple((at + 1, NOTE) for at in range(101))
        for cut in (1, 50, 100):
            for one, other in ((many[:cut], many[cut:]), (many[cut:], many[:cut]), (hundred, many[cut:])):
                with self.assertRaises(TooMany) as caught:
                    merged(one, other)
                self.assertIsInstance(caught.exception, LineError)


if __name__ == "__main__":
    unittest.main()
