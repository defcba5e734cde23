"""What the tests of questions share: each is asked twice, and changes nothing that it is handed."""

import itertools
import unittest

from numberedlines.errors import LineError, NoText, TooMany
from things import is_plain, is_same


def lists_of(worths, most_inputs):
    """The lists to try, in their order, put together in another way."""
    return [inputs for many in range(most_inputs + 1) for inputs in itertools.product(worths, repeat=many)]


# Worths and how many inputs: just two thousand lists to try, and just more.
JUST_ENOUGH = ((("x",), 1999), (tuple(range(1999)), 1), (tuple(range(44)), 2), ((0, 1), 9), ((), 10 ** 99))
JUST_BEYOND = (
    (("x",), 2000), (tuple(range(2000)), 1), (tuple(range(45)), 2), ((0, 1), 10), (("x",), 10 ** 99),
    ((0, 1), 10 ** 99), (tuple(range(1999)), 2), (tuple(range(1999)), 10 ** 99),
)


class Asking(unittest.TestCase):
    def assert_told(self, told, function, *things, **how):
        before = repr((things, how))
        for _ in range(2):
            answer = function(*things, **how)
            self.assertTrue(is_same(answer, told), (function.__name__, things, how, answer, told))
            self.assertTrue(is_plain(answer))
        self.assertEqual(repr((things, how)), before)

    def assert_refused_beyond_two_thousand_lists(self, function, *things):
        """Refused just beyond them, and ahead of all else."""
        for worths, most_inputs in JUST_ENOUGH:
            function(*things, worths=worths, most_inputs=most_inputs, most=0)
        for worths, most_inputs in JUST_BEYOND:
            for most in (0, 1, 10 ** 99):
                with self.assertRaises(TooMany):
                    function(*things, worths=worths, most_inputs=most_inputs, most=most)


class Refusing(Asking):
    def assert_refused(self, line, function, thing):
        before = repr(thing)
        for _ in range(2):
            with self.assertRaises(NoText) as caught:
                function(thing)
            self.assertEqual(repr(caught.exception.line), repr(line), repr(thing)[:200])
            self.assertIsInstance(caught.exception, LineError)
        self.assertEqual(repr(thing), before)
