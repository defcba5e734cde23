"""The interface's section on errors.py."""

import unittest

from numberedlines import errors

WITHOUT_FIELDS = ("TooGreat", "TooMany", "NoChange", "NoProgram", "NoWorth")


class Bases(unittest.TestCase):
    def test_line_error_stands_under_value_error(self):
        self.assertEqual(errors.LineError.__bases__, (ValueError,))

    def test_refusals_stand_directly_under_line_error(self):
        for name in WITHOUT_FIELDS + ("Reckoned", "NoTarget", "NoText", "NoLine"):
            with self.subTest(name=name):
                self.assertEqual(getattr(errors, name).__bases__, (errors.LineError,))

    def test_no_run_and_no_back_stand_under_lookup_error_alone(self):
        for name in ("NoRun", "NoBack"):
            with self.subTest(name=name):
                self.assertEqual(getattr(errors, name).__bases__, (LookupError,))


class Fields(unittest.TestCase):
    def test_made_with_nothing(self):
        for name in WITHOUT_FIELDS + ("NoBack",):
            with self.subTest(name=name):
                self.assertEqual(vars(getattr(errors, name)()), {})

    def test_line(self):
        self.assertEqual(vars(errors.Reckoned(30)), {"line": 30})
        self.assertEqual(vars(errors.NoText(0)), {"line": 0})
        self.assertEqual(vars(errors.NoText(None)), {"line": None})

    def test_line_and_target(self):
        self.assertEqual(vars(errors.NoTarget(30, 99)), {"line": 30, "target": 99})

    def test_number(self):
        self.assertEqual(vars(errors.NoLine(7)), {"number": 7})
        self.assertEqual(vars(errors.NoLine(None)), {"number": None})

    def test_name(self):
        self.assertEqual(vars(errors.NoRun("a")), {"name": "a"})
        self.assertEqual(vars(errors.NoRun(None)), {"name": None})

    def test_those_with_fields_are_not_made_without(self):
        for name in ("Reckoned", "NoTarget", "NoText", "NoLine", "NoRun"):
            with self.subTest(name=name):
                self.assertRaises(TypeError, getattr(errors, name))

    def test_fields_stay_behind_being_raised(self):
        with self.assertRaises(errors.LineError) as caught:
            raise errors.NoTarget(10, 20)
        self.assertEqual((caught.exception.line, caught.exception.target), (10, 20))


if __name__ == "__main__":
    unittest.main()
