"""What the tests share: the asking for refusals, and numbers at the edges."""

import unittest

from wraptime import errors

REFUSALS = (
    errors.BadWheel,
    errors.BadRule,
    errors.BadSeen,
    errors.BadGaps,
    errors.BadSpan,
    errors.BadLong,
    errors.NoGap,
    errors.NoSpan,
)

LARGEST = 10 ** 12
SIXTY = 10 ** 60 - 1  # the largest number of sixty figures

NO_WHEELS = (-SIXTY, -LARGEST, -2, -1, 0, 1, LARGEST + 1, SIXTY)


class Case(unittest.TestCase):
    """A test case that tells refusals apart, and True from 1."""

    def refused(self, refusal, function, *handed):
        """Assert that a call is refused as the one refusal and as no other one; give its words."""
        with self.assertRaises(refusal) as caught:
            function(*handed)
        error = caught.exception
        self.assertIsInstance(error, errors.WrapError)
        self.assertIsInstance(error, ValueError)
        told = [other for other in REFUSALS if isinstance(error, other)]
        self.assertEqual(told, [refusal])
        return str(error)

    def same(self, told, wanted):
        """Assert that two values are equal and of the same kind, throughout."""
        self.assertEqual(told, wanted)
        self.assertIs(type(told), type(wanted))
        if isinstance(wanted, (tuple, list)):
            for one, other in zip(told, wanted):
                self.same(one, other)
