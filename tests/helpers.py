"""What several tests share."""

import unittest

# Values that stand in the place of an integer, though none of them is one.
NO_INTEGERS = (True, False, None, "1", "", [1], (1,), {1: 1}, 1.0)

# Values that stand in the place of a text, though none of them is one.
NO_TEXTS = (None, True, False, 0, 7, b"0 1 alive -", ["0 1 alive -"], ("0 1 alive -",), {}, 1.5)


class Case(unittest.TestCase):
    """A test case that knows how to look at the errors of the program."""

    def assert_refused(self, error, told, function, *given, **named):
        """The call raises exactly this error, and its only attribute tells exactly this."""
        with self.assertRaises(error) as caught:
            function(*given, **named)
        self.assertIs(error, caught.exception.__class__)
        values = list(vars(caught.exception).values())
        self.assertEqual([told], values)
        self.assertIs(told.__class__, values[0].__class__)
