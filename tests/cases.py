"""What the cases of several files of tests share."""

import unittest

from squareloops.errors import WrongValue


class Refusing(unittest.TestCase):
    def refused(self, error, given, function, *values):
        """That the function raises this error for these values, with what was passed."""
        with self.assertRaises(error) as caught:
            function(*values)
        self.assertIs(type(caught.exception), error)
        self.assertIsInstance(caught.exception, WrongValue)
        self.assertIs(caught.exception.given, given)
