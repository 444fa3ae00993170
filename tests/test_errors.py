"""The interface's refusals."""

from unittest import TestCase

from dearsigns import errors
from dearsigns.errors import DearError

OF_A_TEXT = ["NoNumber", "NoBook", "NoTree", "TooMany", "NoCount", "NoUndo", "NoTurn", "NoRow", "Unknown"]
OF_A_VALUE = {"NoTongue": "part", "NoWants": "number", "NoThing": "place", "BadSign": "place", "NoText": "row"}


def refusals():
    return {name: getattr(errors, name) for name in [*OF_A_TEXT, *OF_A_VALUE]}


class ErrorsTest(TestCase):

    def test_each_is_a_dear_error_and_a_value_error(self):
        self.assertTrue(issubclass(DearError, ValueError))
        self.assertEqual(len(refusals()), 14)
        for refusal in refusals().values():
            self.assertTrue(issubclass(refusal, DearError))
            self.assertTrue(issubclass(refusal, ValueError))

    def test_none_is_another_one(self):
        for name, refusal in refusals().items():
            for other, against in refusals().items():
                self.assertEqual(issubclass(refusal, against), name == other)
            self.assertNotEqual(refusal, DearError)

    def test_nine_are_made_of_a_text(self):
        for name in OF_A_TEXT:
            with self.assertRaises(DearError) as caught:
                raise refusals()[name]("why")
            self.assertEqual(str(caught.exception), "why")

    def test_five_are_made_of_their_value(self):
        for name, value in OF_A_VALUE.items():
            for told in (None, 0, 7, "signs"):
                refusal = refusals()[name](told)
                self.assertEqual(getattr(refusal, value), told)
                self.assertEqual(vars(refusal), {value: told})
