"""Point 7: what expressions come to."""

import copy
import unittest

from numberedlines.reckon import reckon
from things import is_plain, is_same

TOP = 10 ** 12
HUNDRED = "x" * 100


def number(worth):
    """An expression that comes to a number, also one beneath 0."""
    return ("number", worth) if worth >= 0 else ("-", ("number", 0), ("number", -worth))


def text(worth):
    return ("text", worth)


def written(worth):
    return text(worth) if isinstance(worth, str) else number(worth)


# Expressions that come to each of the faults by themselves.
NOUGHT = ("/", number(1), number(0))
KIND = ("+", number(1), text("a"))
RANGE = ("part", text("a"), number(0), number(1))
EMPTY = ("box", "nobox")
NOROW = ("cell", "norow", number(0))
NOFIT = ("fit", "nofit", number(0))
GREAT = ("*", number(TOP), number(2))
LONG = ("+", text(HUNDRED), text("x"))
FAULTS = (
    (NOUGHT, "nought"), (KIND, "kind"), (RANGE, "range"), (EMPTY, "empty"), (NOROW, "norow"), (NOFIT, "nofit"),
    (GREAT, "great"), (LONG, "long"),
)


class Reckoned(unittest.TestCase):
    def assert_worth(self, expression, worth, **known):
        told = reckon(expression, **known)
        self.assertTrue(is_same(told, ("worth", worth)), (expression, told, worth))

    def assert_fault(self, expression, word, **known):
        self.assertEqual(reckon(expression, **known), ("fault", word), expression)

    def assert_two(self, sign, left, right, worth):
        self.assert_worth((sign, written(left), written(right)), worth)

    def assert_two_fault(self, sign, left, right, word):
        self.assert_fault((sign, written(left), written(right)), word)


class Leaves(Reckoned):
    def test_numbers_and_texts(self):
        for worth in (0, 1, TOP, "", "a", HUNDRED, "0"):
            self.assert_worth(written(worth), worth)

    def test_boxes(self):
        boxes = {"a": 5, "b": "five", "c": -TOP, "d": 0, "e": ""}
        for name in boxes:
            self.assert_worth(("box", name), boxes[name], boxes=boxes)
        self.assert_fault(("box", "f"), "empty", boxes=boxes)
        self.assert_fault(("box", "a"), "empty", boxes={})
        self.assert_fault(("box", "a"), "empty", rows={"a": (1,)}, fits={"a": ("x", number(1))})

    def test_what_is_left_out_is_none(self):
        self.assert_fault(("box", "a"), "empty")
        self.assert_fault(("cell", "a", number(0)), "norow")
        self.assert_fault(("fit", "a", number(0)), "nofit")
        self.assert_fault(("why",), "empty")
        self.assert_fault(("where",), "empty")
        none = {"boxes": None, "rows": None, "fits": None, "fault": None}
        self.assert_fault(("box", "a"), "empty", **none)
        self.assert_fault(("cell", "a", number(0)), "norow", **none)
        self.assert_fault(("fit", "a", number(0)), "nofit", **none)
        self.assert_fault(("why",), "empty", **none)
        self.assert_worth(("+", number(1), number(2)), 3, **none)

    def test_all_but_the_expression_is_handed_in_by_name(self):
        self.assertRaises(TypeError, reckon, number(1), {})

    def test_why_and_where(self):
        for word, line in (("nought", 10), ("noline", 9999), ("empty", 1)):
            self.assert_worth(("why",), word, fault=(word, line))
            self.assert_worth(("where",), line, fault=(word, line))
        self.assert_worth(("+", ("where",), number(1)), 11, fault=("kind", 10))
        self.assert_worth(("size", ("why",)), 4, fault=("kind", 10))
        self.assert_fault(("why",), "empty", boxes={"why": 1})


class Cells(Reckoned):
    ROWS = {"a": (7, "eight", -9), "b": ("",)}

    def test_from_0_on(self):
        for at, worth in enumerate(self.ROWS["a"]):
            self.assert_worth(("cell", "a", number(at)), worth, rows=self.ROWS)
        self.assert_worth(("cell", "b", number(0)), "", rows=self.ROWS)

    def test_no_cell(self):
        for at in (-1, -3, 3, 4, TOP, -TOP):
            self.assert_fault(("cell", "a", number(at)), "range", rows=self.ROWS)
        self.assert_fault(("cell", "b", number(1)), "range", rows=self.ROWS)

    def test_kind(self):
        for at in ("", "0", "a"):
            self.assert_fault(("cell", "a", text(at)), "kind", rows=self.ROWS)

    def test_no_row(self):
        self.assert_fault(("cell", "c", number(0)), "norow", rows=self.ROWS)
        self.assert_fault(("cell", "c", number(0)), "norow", rows=self.ROWS, boxes={"c": 1})

    def test_order_of_faults(self):
        self.assert_fault(("cell", "c", text("a")), "norow", rows=self.ROWS)
        self.assert_fault(("cell", "c", number(-1)), "norow", rows=self.ROWS)
        for inner, word in FAULTS:
            self.assert_fault(("cell", "a", inner), word, rows=self.ROWS)
            self.assert_fault(("cell", "c", inner), word, rows=self.ROWS)


class Two(Reckoned):
    def test_plus(self):
        for left, right, worth in ((1, 2, 3), (-5, 3, -2), (TOP, 0, TOP), (TOP - 1, 1, TOP), (-TOP, TOP, 0),
                                   ("a", "b", "ab"), ("", "", ""), ("b", "a", "ba"), ("x" * 99, "x", HUNDRED)):
            self.assert_two("+", left, right, worth)
        self.assert_two_fault("+", TOP, 1, "great")
        self.assert_two_fault("+", -TOP, -1, "great")
        self.assert_two_fault("+", HUNDRED, "x", "long")
        self.assert_two_fault("+", "x", HUNDRED, "long")

    def test_minus_and_times(self):
        for left, right, worth in ((1, 2, -1), (5, -3, 8), (-TOP, 0, -TOP), (0, TOP, -TOP)):
            self.assert_two("-", left, right, worth)
        for left, right, worth in ((3, 4, 12), (-3, 4, -12), (-3, -4, 12), (0, TOP, 0), (10 ** 6, -10 ** 6, -TOP)):
            self.assert_two("*", left, right, worth)
        self.assert_two_fault("-", -TOP, 1, "great")
        self.assert_two_fault("-", TOP, -1, "great")
        self.assert_two_fault("*", 10 ** 6 + 1, 10 ** 6, "great")
        self.assert_two_fault("*", -10 ** 6 - 1, 10 ** 6, "great")
        self.assert_two_fault("*", TOP, TOP, "great")

    def test_division_is_downward(self):
        for left, right, whole, rest in ((7, 2, 3, 1), (-7, 2, -4, 1), (7, -2, -4, -1), (-7, -2, 3, -1), (6, 3, 2, 0),
                                         (-6, 3, -2, 0), (0, 5, 0, 0), (1, TOP, 0, 1), (-1, TOP, -1, TOP - 1),
                                         (TOP, -1, -TOP, 0), (TOP, 7, 142857142857, 1)):
            self.assert_two("/", left, right, whole)
            self.assert_two("rest", left, right, rest)

    def test_nought(self):
        for sign in ("/", "rest"):
            for left in (0, 1, -TOP):
                self.assert_two_fault(sign, left, 0, "nought")
            self.assert_two_fault(sign, "a", 0, "kind")

    def test_comparisons(self):
        for left, right in ((1, 2), (-2, 1), (-2, -1), ("a", "b"), ("", "a"), ("10", "9"), ("B", "a"), ("a", "aa")):
            for sign, ahead, behind, same in (("<", 1, 0, 0), ("=", 0, 0, 1), (">", 0, 1, 0)):
                self.assert_two(sign, left, right, ahead)
                self.assert_two(sign, right, left, behind)
                self.assert_two(sign, left, left, same)

    def test_and_or(self):
        for left, right in ((0, 0), (0, 5), (-5, 0), (1, 2), (TOP, -TOP)):
            self.assert_two("and", left, right, int(bool(left) and bool(right)))
            self.assert_two("or", left, right, int(bool(left) or bool(right)))

    def test_kind_of_numbers_and_texts(self):
        for sign in ("+", "-", "*", "/", "rest", "<", "=", ">", "and", "or"):
            for left, right in ((1, "a"), ("a", 1), (0, ""), ("", 0), (0, "0")):
                self.assert_two_fault(sign, left, right, "kind")

    def test_kind_of_two_texts(self):
        for sign in ("-", "*", "/", "rest", "and", "or"):
            for left, right in (("a", "b"), ("", ""), ("0", "0")):
                self.assert_two_fault(sign, left, right, "kind")

    def test_and_or_reckon_both_sides(self):
        for sign in ("and", "or"):
            for left in (0, 1):
                for inner, word in FAULTS:
                    self.assert_fault((sign, number(left), inner), word)
                    self.assert_fault((sign, inner, number(left)), word)


class OneAndPart(Reckoned):
    def test_not(self):
        for worth, told in ((0, 1), (1, 0), (-1, 0), (TOP, 0)):
            self.assert_worth(("not", number(worth)), told)
        for worth in ("", "a", "0"):
            self.assert_fault(("not", text(worth)), "kind")

    def test_size(self):
        for worth, told in (("", 0), ("a", 1), (" a ", 3), (HUNDRED, 100)):
            self.assert_worth(("size", text(worth)), told)
        for worth in (0, 1, -5):
            self.assert_fault(("size", number(worth)), "kind")

    def test_part(self):
        for first, many, told in ((1, 0, ""), (1, 1, "a"), (1, 3, "abc"), (1, 4, "abcd"), (1, 5, "abcd"), (2, 2, "bc"),
                                  (4, 1, "d"), (4, 2, "d"), (5, 0, ""), (5, 1, ""), (9, 3, ""), (TOP, TOP, ""),
                                  (1, TOP, "abcd"), (3, 0, "")):
            self.assert_worth(("part", text("abcd"), number(first), number(many)), told)
        self.assert_worth(("part", text(""), number(1), number(1)), "")

    def test_part_range(self):
        for first, many in ((0, 1), (-1, 1), (1, -1), (0, 0), (0, -1), (-TOP, 3), (2, -TOP), (9, -1)):
            self.assert_fault(("part", text("abcd"), number(first), number(many)), "range")

    def test_part_kind(self):
        for parts in ((1, 1, 1), ("a", "1", 1), ("a", 1, "1"), ("a", "", ""), (1, "a", "a"), (1, "a", 1), (1, 1, "a")):
            self.assert_fault(("part",) + tuple(written(part) for part in parts), "kind")

    def test_kind_ahead_of_range(self):
        for parts in ((1, 0, 1), (1, 1, -1), ("a", 0, "1"), ("a", "1", -1)):
            self.assert_fault(("part",) + tuple(written(part) for part in parts), "kind")

    def test_kind_ahead_of_nought_great_and_long(self):
        for sign in ("/", "rest", "+", "*"):
            self.assert_two_fault(sign, "a", 0, "kind")
            self.assert_two_fault(sign, HUNDRED, TOP, "kind")


class Order(Reckoned):
    def test_the_leftmost_fault_is_the_fault(self):
        for left, word in FAULTS:
            for right, _ in FAULTS:
                for sign in ("+", "-", "*", "/", "rest", "<", "=", ">", "and", "or"):
                    self.assert_fault((sign, left, right), word)
                self.assert_fault(("part", left, right, right), word)
                self.assert_fault(("part", text("a"), left, right), word)
                self.assert_fault(("+", ("+", number(1), left), right), word)

    def test_what_is_within_goes_ahead_of_what_comes_out(self):
        for inner, word in FAULTS:
            for expression in (
                ("+", text("a"), inner), ("/", text("a"), inner), ("not", inner), ("size", inner),
                ("part", number(1), number(0), inner), ("part", number(1), inner, number(1)),
                ("part", inner, text("a"), text("a")), ("*", number(TOP), inner), ("/", inner, number(0)),
            ):
                self.assert_fault(expression, word)


def chain(many):
    """Fits from a on, each of which calls the next one, the last one its box."""
    names = [chr(ord("a") + at) for at in range(many)]
    fits = {name: ("x", ("fit", behind, ("+", ("box", "x"), number(1)))) for name, behind in zip(names, names[1:])}
    fits[names[-1]] = ("x", ("box", "x"))
    return fits


class Fits(Reckoned):
    DOUBLE = {"double": ("x", ("*", ("box", "x"), number(2)))}

    def test_its_expression_by_what_is_handed_to_it(self):
        self.assert_worth(("fit", "double", number(21)), 42, fits=self.DOUBLE)
        self.assert_worth(("fit", "double", ("fit", "double", number(3))), 12, fits=self.DOUBLE)
        self.assert_worth(("fit", "one", text("a")), 1, fits={"one": ("x", number(1))})

    def test_its_box_hides_another_one(self):
        boxes = {"x": 100, "y": 5}
        sum_of = ("+", ("fit", "double", ("box", "y")), ("box", "x"))
        self.assert_worth(sum_of, 110, boxes=boxes, fits=self.DOUBLE)
        self.assert_worth(("+", ("box", "x"), ("fit", "double", ("box", "x"))), 300, boxes=boxes, fits=self.DOUBLE)
        self.assert_worth(("fit", "same", text("b")), "b", boxes=boxes, fits={"same": ("x", ("box", "x"))})

    def test_its_box_is_not_there_behind_it(self):
        self.assert_fault(("+", ("fit", "double", number(1)), ("box", "x")), "empty", fits=self.DOUBLE)
        self.assert_fault(("fit", "double", ("box", "x")), "empty", fits=self.DOUBLE)

    def test_by_the_boxes_by_which_the_call_is_reckoned(self):
        fits = {"outer": ("x", ("fit", "inner", ("+", ("box", "x"), number(1)))),
                "inner": ("y", ("+", ("*", ("box", "x"), number(10)), ("box", "y")))}
        self.assert_worth(("fit", "outer", number(4)), 45, fits=fits)
        self.assert_worth(("fit", "outer", number(4)), 45, fits=fits, boxes={"x": 9, "y": 9})
        self.assert_worth(("fit", "inner", number(4)), 94, fits=fits, boxes={"x": 9, "y": 9})
        self.assert_fault(("fit", "inner", number(4)), "empty", fits=fits)

    def test_two_fits_of_the_same_box(self):
        fits = {"outer": ("x", ("+", ("fit", "inner", number(1)), ("box", "x"))),
                "inner": ("x", ("*", ("box", "x"), number(1000)))}
        self.assert_worth(("fit", "outer", number(7)), 1007, fits=fits)

    def test_by_rows_and_the_last_fault(self):
        fits = {"a": ("x", ("cell", "r", ("box", "x"))), "b": ("x", ("why",)), "c": ("x", ("where",))}
        self.assert_worth(("fit", "a", number(1)), "one", fits=fits, rows={"r": (0, "one")})
        self.assert_worth(("fit", "b", number(1)), "data", fits=fits, fault=("data", 70))
        self.assert_worth(("fit", "c", number(1)), 70, fits=fits, fault=("data", 70))
        self.assert_fault(("fit", "b", number(1)), "empty", fits=fits)

    def test_faults_within(self):
        for inner, word in FAULTS:
            self.assert_fault(("fit", "a", number(1)), word, fits={"a": ("x", inner)})
            self.assert_fault(("fit", "double", inner), word, fits=self.DOUBLE)
        self.assert_fault(("fit", "double", text("a")), "kind", fits=self.DOUBLE)
        self.assert_fault(("fit", "double", number(TOP)), "great", fits=self.DOUBLE)

    def test_nofit_ahead_of_what_is_handed_to_it(self):
        for inner, _ in FAULTS:
            self.assert_fault(("fit", "a", inner), "nofit", fits=self.DOUBLE, boxes={"a": 1}, rows={"a": (1,)})

    def test_what_is_handed_to_it_ahead_of_what_it_comes_to(self):
        self.assert_fault(("fit", "a", NOUGHT), "nought", fits={"a": ("x", EMPTY)})

    def test_twenty_in_one_another_and_twenty_one(self):
        self.assert_worth(("fit", "a", number(0)), 19, fits=chain(20))
        self.assert_fault(("fit", "a", number(0)), "deep", fits=chain(21))
        self.assert_worth(("fit", "b", number(0)), 19, fits=chain(21))
        self.assert_fault(("fit", "a", number(0)), "deep", fits=chain(26))

    def test_one_that_calls_itself(self):
        self.assert_fault(("fit", "a", number(1)), "deep", fits={"a": ("x", ("fit", "a", ("box", "x")))})
        # What is handed to the twenty-first is reckoned, ahead of deep.
        fits = {"a": ("x", ("fit", "a", ("+", ("box", "x"), number(1))))}
        self.assert_fault(("fit", "a", number(TOP - 20)), "deep", fits=fits)
        self.assert_fault(("fit", "a", number(TOP - 19)), "great", fits=fits)

    def test_fits_beside_one_another_do_not_count(self):
        fits = chain(20)
        self.assert_worth(("+", ("fit", "a", number(0)), ("fit", "a", number(1))), 39, fits=fits)
        self.assert_worth(("fit", "a", ("fit", "a", number(0))), 38, fits=fits)
        nested = number(0)
        for _ in range(7):
            nested = ("fit", "a", nested)
        self.assert_worth(nested, 133, fits=fits)

    def test_order_of_nofit_the_fault_within_and_deep(self):
        def ending_in(last):
            return {**chain(20), "t": ("x", last)}
        self.assert_fault(("fit", "a", number(0)), "nofit", fits=ending_in(("fit", "no", NOUGHT)))
        self.assert_fault(("fit", "a", number(0)), "nofit", fits=ending_in(("fit", "no", number(1))))
        self.assert_fault(("fit", "a", number(0)), "nought", fits=ending_in(("fit", "a", NOUGHT)))
        self.assert_fault(("fit", "a", number(0)), "deep", fits=ending_in(("fit", "a", number(1))))
        self.assert_fault(("fit", "a", number(0)), "deep", fits=ending_in(("+", ("fit", "a", number(1)), NOUGHT)))
        self.assert_fault(("fit", "a", number(0)), "nought", fits=ending_in(("+", NOUGHT, ("fit", "a", number(1)))))

    def test_deep_expressions_in_twenty_fits(self):
        fits = {}
        for name in chain(20):
            behind = chr(ord(name) + 1)
            inner = ("box", "x") if name == "t" else ("fit", behind, ("+", ("box", "x"), number(1)))
            for _ in range(5):
                inner = ("+", number(0), inner)
            fits[name] = ("x", inner)
        self.assert_worth(("fit", "a", number(0)), 19, fits=fits)

    def test_a_thousand_fits(self):
        fits = {"a": ("x", ("box", "x"))}
        for at in range(1, 9):
            name = chr(ord("a") + at)
            call = ("fit", chr(ord("a") + at - 1), ("box", "x"))
            fits[name] = ("x", ("+", call, call))
        self.assert_worth(("fit", "i", number(1)), 256, fits=fits)


class AsTwo(Reckoned):
    """Point 2: what is handed in stays, what is told is plain, and the same is told again."""

    def test_what_is_handed_in_stays(self):
        known = {"boxes": {"x": 1, "y": "a"}, "rows": {"r": (1, 2)},
                 "fits": {"f": ("x", ("cell", "r", ("box", "x"))), "g": ("z", EMPTY)}, "fault": ("kind", 10)}
        before = copy.deepcopy(known)
        for expression, told in (
            (("fit", "f", number(0)), ("worth", 1)), (("fit", "f", number(9)), ("fault", "range")),
            (("fit", "g", number(1)), ("fault", "empty")), (("+", ("box", "x"), ("where",)), ("worth", 11)),
            (("cell", "r", number(1)), ("worth", 2)),
        ):
            for _ in range(2):
                answer = reckon(expression, **known)
                self.assertTrue(is_same(answer, told))
                self.assertTrue(is_plain(answer))
            self.assertTrue(is_same(known, before))

    def test_what_is_done_to_the_dicts_later_is_seen_anew(self):
        boxes = {"a": 1}
        self.assert_worth(("box", "a"), 1, boxes=boxes)
        boxes["a"] = 2
        self.assert_worth(("box", "a"), 2, boxes=boxes)
        self.assert_fault(("box", "a"), "empty")


if __name__ == "__main__":
    unittest.main()
