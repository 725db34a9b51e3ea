import unittest

from placewords import errors
from placewords.errors import ExpressionSyntaxError, PlaceError

NAMES = (
    "InvalidAlphabet", "InvalidAutomaton", "NotClosed", "NotConnected", "TooLarge", "NotReady", "InvalidTeam",
    "ExpressionSyntaxError",
)


class ErrorsTest(unittest.TestCase):
    def test_all_stand_directly_below_the_base_class(self):
        self.assertEqual(PlaceError.__bases__, (ValueError,))
        for name in NAMES:
            self.assertEqual(getattr(errors, name).__bases__, (PlaceError,), name)
            self.assertEqual(getattr(errors, name).__module__, "placewords.errors")

    def test_the_position_is_kept(self):
        error = ExpressionSyntaxError(8)
        self.assertEqual(error.position, 8)
        self.assertIsInstance(str(error), str)

    def test_the_others_take_a_text(self):
        for name in NAMES[:-1]:
            self.assertEqual(str(getattr(errors, name)("why")), "why")
