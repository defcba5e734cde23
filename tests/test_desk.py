"""Point 28: a desk that keeps runs by names and is told lines."""

import unittest

from numberedlines.desk import Desk
from numberedlines.errors import LineError, NoBack, NoLine, NoRun, NoTarget, NoText, Reckoned, TooGreat, TooMany
from numberedlines.reader import read_program
from numberedlines.runs import Run
from numberedlines.texts import show_line
from programs import Chance
from things import ODD
from written import STATEMENTS

NONE_TOLD = {"number": None}
NO_TEXT = {"line": None}
NONE_USED = {"name": None}
FIGURES = "9" * 5000
# Every line that a desk answers where a run is used, with what must stand there.
ASKS = ("names", "list", "said", "pile", "box a", "box n", "box i")

COUNTS = ("10 ask n", "20 loop i = 1 to n by 1", "30 say i; (i * i)", "40 again i", "50 stop", '60 say "a, b"; n')


class Desks(unittest.TestCase):
    def setUp(self):
        self.desk = Desk()

    def told(self, desk=None):
        """All that a desk answers without changing, and what it refuses."""
        desk = self.desk if desk is None else desk
        answers = []
        for line in ASKS:
            try:
                answers.append(desk.say(line))
            except NoRun as refusal:
                answers.append(vars(refusal))
        return answers

    def assert_says(self, line, told):
        answer = self.desk.say(line)
        self.assertIs(type(answer), str)
        self.assertEqual(answer, told, line)

    def assert_all_say(self, *pairs):
        for line, told in pairs:
            self.assert_says(line, told)

    def say_all(self, *lines):
        for line in lines:
            self.assert_says(line, "ok")

    def assert_refused(self, error, fields, *lines):
        """Each line is refused so, and nothing changes."""
        for line in lines:
            before = self.told()
            with self.assertRaises(error, msg=repr(line)[:100]) as caught:
                self.desk.say(line)
            self.assertIs(type(caught.exception), error, repr(line)[:100])
            self.assertEqual(repr(vars(caught.exception)), repr(fields), repr(line)[:100])
            self.assertEqual(self.told(), before)


class Kept(Desks):
    def test_a_new_desk(self):
        self.assert_says("names", "-")
        self.assert_refused(NoRun, NONE_USED, "list", "run", "step", "10 end", "10")

    def test_say_stands_in_the_class_itself(self):
        self.assertIn("say", vars(Desk))

    def test_several_by_names(self):
        self.say_all("new b", "10 end", "new a", "20 stop", "new abcdefgh")
        self.assert_says("names", "a abcdefgh b")
        self.assert_says("list", "-")
        self.say_all("use b")
        self.assert_says("list", "10 end")
        self.say_all("use a")
        self.assert_says("list", "20 stop")
        self.say_all("use a", "drop b")
        self.assert_all_say(("names", "a abcdefgh"), ("list", "20 stop"))
        self.say_all("drop a")
        self.assert_says("names", "abcdefgh")
        self.assert_refused(NoRun, NONE_USED, "list")
        self.assert_refused(NoRun, {"name": "a"}, "use a", "drop a")
        self.say_all("use abcdefgh", "drop abcdefgh")
        self.assert_says("names", "-")

    def test_made_anew_in_the_place_of_an_elder_one(self):
        self.say_all("new a", "10 end", "new b", "20 end", "new a")
        self.assert_all_say(("names", "a b"), ("list", "-"))
        self.assert_refused(NoBack, {}, "back")
        self.say_all("use b")
        self.assert_says("list", "20 end")
        self.say_all("new b")
        self.assert_says("list", "-")

    def test_no_such_run(self):
        self.assert_refused(NoRun, {"name": "a"}, "use a", "drop a")
        self.say_all("new a", "10 end")
        self.assert_refused(NoRun, {"name": "b"}, "use b", "drop b")
        self.assert_says("list", "10 end")

    def test_two_desks_know_nothing_of_one_another(self):
        other = Desk()
        self.say_all("new a")
        self.assertEqual(other.say("names"), "-")
        other.say("new a")
        other.say("10 end")
        self.assert_says("list", "-")

    def test_names_that_are_none(self):
        self.say_all("new a")
        for word in ("new", "use", "drop", "box"):
            self.assert_refused(NoText, NO_TEXT, *[f"{word} {name}" for name in (
                "", "A", "aB", "a1", "1", "abcdefghi", "and", "or", "not", "rest", "size", "part", "why", "where", "to", "by",
                "go", "call", "a\n", '"a"', "-", "x" * 10000, FIGURES)])


class Lines(Desks):
    def test_put_and_struck(self):
        self.say_all("new a", "20 end", "10 set a = 1", "30 note  x ")
        self.assert_says("list", "10 set a = 1|20 end|30 note  x ")
        self.say_all("20 stop", "10")
        self.assert_says("list", "20 stop|30 note  x ")
        self.say_all("20", "30")
        self.assert_says("list", "-")

    def test_each_statement(self):
        for statement, written in STATEMENTS:
            self.say_all("new a", f"10 {written}")
            self.assert_says("list", f"10 {written}")
        for seed in range(50):
            program = Chance(seed).program()
            self.say_all("new a", *[show_line(line) for line in program])
            self.assert_says("list", "|".join(show_line(line) for line in program))

    def test_struck_figures(self):
        self.say_all("new a", "1 end", "9999 end")
        self.assert_refused(NoLine, {"number": 2}, "2")
        self.assert_refused(NoLine, {"number": 9998}, "9998")
        self.assert_refused(NoText, NO_TEXT, "0", "00", "01", "0001", "10000", "99999", FIGURES, "0" * 5000, "0" + FIGURES)
        self.say_all("9999", "1")
        self.assert_refused(NoLine, {"number": 1}, "1")

    def test_lines_that_are_not_so_written(self):
        self.say_all("new a", "10 end")
        self.assert_refused(
            NoText, NO_TEXT, "10 ", "10  end", "10 end ", "10end", "10 nothing", "10 set a=1", "010 end", "0 end", "10000 end",
            f"{FIGURES} end", f"10 go {FIGURES}", "10 20", "10 end\n", "10\n", "10 run", "10 new a", '10 note "', "10 say " + "(" * 2000,
            "10 say a; a; a; a; a; a", "1a", "1-", "10 say (a)", "5|", "10 data 1,2")

    def test_more_than_a_hundred(self):
        self.say_all("new a", *[f"{at} end" for at in range(1, 101)])
        self.assert_refused(TooMany, {}, "101 end")
        self.say_all("100 stop")

    def test_without_a_run(self):
        self.assert_refused(NoText, NO_TEXT, "10 nothing", "0", "10000", "10 ", FIGURES)
        self.assert_refused(NoRun, NONE_USED, "10 end", "10", "9999")


class Running(Desks):
    def test_run_step_and_on(self):
        self.say_all("new a", *COUNTS)
        self.assert_all_say(("run", "asks at 10 1"), ("step", "asks at 10 0"), ("on", "asks at 10 0"))
        self.say_all("give 2")
        self.assert_all_say(
            ("on", "stopped at 60 7"), ("said", "2, 4"), ("box i", "3"), ("box n", "2"), ("on", "ended at 0 1"),
            ("said", '"a, b", 2'), ("on", "ended at 0 0"), ("step", "ended at 0 0"), ("run", "stopped at 60 7"),
            ("run 60", "faulted at 60 1"), ("on", "faulted at 60 1"), ("step", "faulted at 60 0"), ("said", "-"))

    def test_step_by_step(self):
        self.say_all("new a", "10 set a = 1", "20 go 10", "30 end")
        self.assert_all_say(("step", "ended at 0 0"), ("on", "ended at 0 0"), ("run 30", "ended at 0 1"), ("back", "ok"),
                            ("step", "ended at 0 1"), ("run", "going at 10 1000"), ("step", "going at 20 1"), ("step", "going at 10 1"),
                            ("on", "going at 10 1000"))

    def test_of_no_lines(self):
        self.say_all("new a")
        self.assert_all_say(("run", "ended at 0 0"), ("step", "ended at 0 0"), ("on", "ended at 0 0"))
        self.assert_refused(NoLine, {"number": 10}, "run 10")

    def test_run_is_two_deeds(self):
        self.say_all("new a", "10 set a = 1", "20 end")
        self.assert_says("run", "ended at 0 2")
        self.say_all("back")
        self.assert_says("box a", "-")
        self.assert_says("step", "going at 20 1")
        self.say_all("back", "back")
        self.assert_says("step", "ended at 0 0")
        self.say_all("back", "back", "back")
        self.assert_refused(NoBack, {}, "back")

    def test_run_at_a_line(self):
        self.say_all("new a", "10 set a = 1", "20 end", "9999 stop")
        self.assert_all_say(("run 20", "ended at 0 1"), ("box a", "-"), ("run 10", "ended at 0 2"), ("box a", "1"),
                            ("run 9999", "ended at 0 1"))
        for at in (1, 15, 9998):
            self.assert_refused(NoLine, {"number": at}, f"run {at}")
        self.assert_refused(NoText, NO_TEXT, "run ", "run 0", "run 00", "run 010", "run 10000", f"run {FIGURES}", "run a", "run -10",
                            "run 10\n", "run +10", "run 1_0")
        self.say_all("drop a")
        self.assert_refused(NoText, NO_TEXT, "run 0", "run a")
        self.assert_refused(NoRun, NONE_USED, "run", "run 10", "run 9998")

    def test_give(self):
        self.say_all("new a", "10 ask a", "20 say a", "30 go 10")
        given = ("0", "1", "-1", "1000000000000", "-1000000000000", '""', '"a b"', '"  a  "', '"|"', '"a|b, c"', '"10 end"',
                 f'"{"x" * 100}"', '"-1"', '"give 1"')
        self.say_all(*[f"give {worth}" for worth in given])
        self.assert_says("run", f"asks at 10 {3 * len(given) + 1}")
        for worth in given[::-1]:
            self.assert_says("box a", worth)
            self.assert_says("said", worth)
            self.say_all("back", "back", "back")
            # The last input is taken back as well: give is the deed ahead of run's two.
            self.assert_says("run", f"asks at 10 {3 * (given.index(worth)) + 1}")

    def test_give_what_is_no_worth(self):
        self.say_all("new a")
        self.assert_refused(NoLine, NONE_TOLD, "give")
        self.assert_refused(
            NoText, NO_TEXT, "give ", "give  ", "give  1", "give 1 ", "give 1 2", "give 1, 2", "give a", "give 01", "give -0", "give - 1",
            "give +1", "give --1", "give 1000000000001", "give -1000000000001", f"give {FIGURES}", f"give -{FIGURES}", 'give "', 'give "a',
            'give a"', 'give "a" ', 'give  "a"', 'give "a" "b"', 'give "a", "b"', f'give "{"x" * 101}"', 'give "a\nb"', "give 1\n",
            "give (1)", "give (0 - 1)", "give 10 note x", "give -", 'give -"a"', "give 1.0")
        self.say_all("drop a")
        self.assert_refused(NoText, NO_TEXT, "give x", "give ")
        self.assert_refused(NoRun, NONE_USED, "give 1", 'give "a b"')

    def test_back(self):
        self.assert_refused(NoRun, NONE_USED, "back")
        self.say_all("new a")
        self.assert_refused(NoBack, {}, "back")
        self.say_all("10 end", "10 stop", "10", "back")
        self.assert_says("list", "10 stop")
        self.say_all("back")
        self.assert_says("list", "10 end")
        self.say_all("back")
        self.assert_says("list", "-")
        self.assert_refused(NoBack, {}, "back")

    def test_renumber(self):
        self.say_all("new a", "1 go 3", "3 stop", "4 go 1")
        self.say_all("renumber 10 10")
        self.assert_says("list", "10 go 20|20 stop|30 go 10")
        self.assert_says("run", "stopped at 30 2")
        self.say_all("renumber 9001 1")
        self.assert_all_say(("list", "9001 go 9002|9002 stop|9003 go 9001"), ("on", "stopped at 9003 3"))
        self.say_all("renumber 1 4999")
        self.assert_says("list", "1 go 5000|5000 stop|9999 go 1")
        self.assert_refused(TooGreat, {}, "renumber 2 4999", "renumber 1 5000", "renumber 9999 9999", "renumber 10000 1",
                            f"renumber {FIGURES} 1", f"renumber 1 {FIGURES}", f"renumber {FIGURES} {FIGURES}")
        self.assert_refused(NoText, NO_TEXT, "renumber 0 1", "renumber 1 0", "renumber 0 0", "renumber 01 1", "renumber 1 01",
                            "renumber a 1", "renumber 1 a", "renumber -1 1", "renumber 1 ", "renumber  1", f"renumber 0{FIGURES} 1")
        self.assert_refused(NoLine, NONE_TOLD, "renumber", "renumber 1", "renumber 1 1 1", "renumber 1  1", "renumber 1 1 ")
        self.say_all("drop a")
        self.assert_refused(NoText, NO_TEXT, "renumber 0 1", "renumber 1 a")
        self.assert_refused(NoRun, NONE_USED, "renumber 10 10", f"renumber {FIGURES} 1")

    def test_renumber_of_few_lines_by_any_number(self):
        self.say_all("new a", f"renumber {FIGURES} {FIGURES}", "10 end", f"renumber 5 {FIGURES}")
        self.assert_says("list", "5 end")

    def test_renumber_refused_by_program_and_state(self):
        self.say_all("new a", "10 go by a", "20 go 30")
        self.assert_refused(Reckoned, {"line": 10}, "renumber 10 10")
        self.say_all("10 go 7")
        self.assert_refused(NoTarget, {"line": 10, "target": 7}, "renumber 10 10")
        self.say_all("10 say a", "20 end")
        self.assert_says("run", "faulted at 10 1")
        self.say_all("10")
        self.assert_refused(NoTarget, {"line": 0, "target": 10}, "renumber 10 10")
        self.say_all("back", "10 fit f(x) = 1", "20 stop", "30 end")
        self.assert_says("run", "stopped at 30 2")


class Answers(Desks):
    def test_list_said_box_and_pile_of_none(self):
        self.say_all("new a")
        self.assert_all_say(("list", "-"), ("said", "-"), ("box a", "-"), ("pile", "-"))
        self.say_all("10 say", "20 end")
        self.assert_all_say(("run", "ended at 0 2"), ("said", "-"))

    def test_said_is_the_last_tuple(self):
        self.say_all("new a", '10 say 1; (0 - 2); "x"; ""', "20 stop", "30 say", "40 stop", '50 say "|"')
        self.assert_all_say(("run", "stopped at 30 2"), ("said", '1, -2, "x", ""'), ("on", "stopped at 50 2"), ("said", "-"),
                            ("on", "ended at 0 1"), ("said", '"|"'))

    def test_said_of_one_empty_text(self):
        self.say_all("new a", '10 say ""')
        self.assert_all_say(("run", "ended at 0 1"), ("said", '""'))

    def test_box(self):
        self.say_all("new a", "10 set box = (0 - 5)", '20 set new = "a b"', "30 row a[5]")
        self.assert_all_say(("run", "ended at 0 3"), ("box box", "-5"), ("box new", '"a b"'), ("box a", "-"), ("box zzz", "-"))

    def test_pile(self):
        self.say_all("new a", "10 call 30", "20 end", "30 loop i = 1 to 2 by 1", "40 loop abcdefgh = 1 to 2 by 1", "50 call 70", "60 end",
                     "70 stop", "80 back")
        self.assert_all_say(("run", "stopped at 80 5"), ("pile", "call 50, loop abcdefgh 40, loop i 30, call 10"), ("on", "ended at 0 2"),
                            ("pile", "loop abcdefgh 40, loop i 30, call 10"), ("run 40", "stopped at 80 3"),
                            ("pile", "call 50, loop abcdefgh 40"))

    def test_a_line_with_a_stroke_in_it(self):
        self.say_all("new a", "10 note a|b", '20 say "|"')
        self.assert_says("list", '10 note a|b|20 say "|"')

    def test_without_a_run(self):
        self.assert_refused(NoRun, NONE_USED, "list", "said", "pile", "box a", "run", "run 10", "step", "on", "back", "give 1",
                            "renumber 1 1")
        self.assert_refused(NoText, NO_TEXT, "box A", "box ", "box 1")


class NoLines(Desks):
    def test_what_is_no_text(self):
        self.say_all("new a", "10 end")
        self.assert_refused(NoLine, NONE_TOLD, None, 10, 0, True, (), ("names",), ["names"], b"names", {"names": 1},
                            *[thing for thing in ODD if not isinstance(thing, str)])

    def test_none_of_these_by_its_first_word(self):
        lines = ("", " ", "  ", "a", "New a", "NAMES", "put 10 end", "strike 10", "go", "begin", "end", "new\n", "names\n", "\nnames",
                 "-", "-10", "(", '"', "newa", "listen", "stepp", "|", "edit 10", "run_used", "used", "~" * 20000, "(" * 20000)
        self.assert_refused(NoLine, NONE_TOLD, *lines)
        self.say_all("new a", "10 end")
        self.assert_refused(NoLine, NONE_TOLD, *lines)

    def test_a_word_too_few(self):
        for _ in range(2):
            self.assert_refused(NoLine, NONE_TOLD, "new", "use", "drop", "give", "box", "renumber", "renumber 1")
            self.say_all("new a")

    def test_a_word_too_many(self):
        for _ in range(2):
            self.assert_refused(NoLine, NONE_TOLD, "new a b", "use a b", "drop a b", "run 10 20", "step 1", "on 5", "back 1", "list all",
                                "said 1", "box a b", "pile 1", "renumber 1 2 3", "names a", "new A B", "box 1 2", "run a b")
            self.say_all("new a")

    def test_blanks_ahead_behind_and_twice(self):
        for _ in range(2):
            self.assert_refused(NoLine, NONE_TOLD, " names", " new a", " 10 end", " 10", "names ", "step ", "on ", "list ", "said ", "pile ",
                                "back ", "new a ", "use a ", "box a ", "run 10 ", "renumber 1 1 ", "new  a", "use  a", "drop  a", "box  a",
                                "run  10", "run  ", "renumber  1 1", "renumber 1  1", "names  ", "step  1")
            # The word without signs behind the last blank is the name, the number or the worth.
            self.assert_refused(NoText, NO_TEXT, "new ", "use ", "drop ", "box ", "run ", "give ", "renumber 1 ", "renumber  ",
                                "renumber  1")
            self.say_all("new a")

    def test_the_order_of_refusals(self):
        # No line ahead of no text, ahead of no run, ahead of the run's own.
        self.assert_refused(NoLine, NONE_TOLD, "new A B", "box A B", "run x y", "renumber 0")
        self.assert_refused(NoText, NO_TEXT, "use A", "drop 1", "box A", "run 0", "give x", "renumber 0 0", "10 x", "0")
        self.assert_refused(NoRun, NONE_USED, "box a", "run 10", "give 1", "renumber 9999 9999", "10 end", "10", "back")
        self.say_all("new a", "10 say a", "20 go 7")
        self.assert_refused(NoLine, {"number": 30}, "run 30")
        self.assert_refused(TooGreat, {}, "renumber 9999 1")
        self.assert_refused(NoTarget, {"line": 20, "target": 7}, "renumber 1 1")

    def test_fields_and_kinds(self):
        for line, error in (("new", NoLine), ("new A", NoText)):
            with self.assertRaises(LineError) as caught:
                self.desk.say(line)
            self.assertIs(type(caught.exception), error)
        with self.assertRaises(LookupError) as caught:
            self.desk.say("use a")
        self.assertEqual(caught.exception.name, "a")
        self.say_all("new a")
        self.assertEqual(caught.exception.name, "a")


class AsRuns(Desks):
    def test_a_desk_tells_what_a_run_tells(self):
        for seed in range(60):
            chance = Chance(seed)
            program, inputs = chance.program(), chance.inputs()
            desk, run = Desk(), Run(())
            desk.say("new a")
            for line in program:
                desk.say(show_line(line))
                run.put(line)
            for worth in inputs:
                desk.say("give " + (f'"{worth}"' if isinstance(worth, str) else str(worth)))
                run.give(worth)
            run.begin()
            steps = [run.go()]
            answers = [desk.say("run")]
            stands = [run.state()[:2]]
            for word in ("on", "step", "on", "step", "step", "back", "on"):
                answers.append(desk.say(word))
                steps.append(run.back() if word == "back" else run.step() if word == "step" else run.go())
                stands.append(run.state()[:2])
            told = ["ok" if many is None else f"{stand} at {at} {many}" for (stand, at), many in zip(stands, steps)]
            self.assertEqual(answers, told, seed)
            self.assertEqual(read_program(desk.say("list").replace("|", "\n") + "\n"), run.program())
            for name in ("a", "b", "i", "k"):
                worth = run.boxes().get(name)
                shown = "-" if worth is None else f'"{worth}"' if isinstance(worth, str) else str(worth)
                self.assertEqual(desk.say(f"box {name}"), shown)
            self.assertEqual(desk.say("pile").count("call") + desk.say("pile").count("loop"), len(run.pile()))


if __name__ == "__main__":
    unittest.main()
