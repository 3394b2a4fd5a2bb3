"""The classes of refusals."""

from tests.helper import REFUSALS, Case
from wraptime import errors


class Errors(Case):
    def test_any_refusal_is_a_value_error(self):
        self.assertEqual(errors.WrapError.__bases__, (ValueError,))

    def test_each_refusal_is_directly_under_any(self):
        for refusal in REFUSALS:
            self.assertEqual(refusal.__bases__, (errors.WrapError,), refusal)

    def test_the_eight_are_eight(self):
        names = sorted(refusal.__name__ for refusal in REFUSALS)
        self.assertEqual(
            names,
            ["BadGaps", "BadLong", "BadRule", "BadSeen", "BadSpan", "BadWheel", "NoGap", "NoSpan"],
        )
        self.assertEqual(len(set(REFUSALS)), 8)

    def test_they_are_defined_in_their_file(self):
        for refusal in (errors.WrapError, *REFUSALS):
            self.assertEqual(refusal.__module__, "wraptime.errors")

    def test_each_can_be_raised_and_told(self):
        for refusal in REFUSALS:
            with self.assertRaises(errors.WrapError) as caught:
                raise refusal("why")
            self.assertEqual(str(caught.exception), "why")
