"""Points 3 and 16: the error classes."""

import unittest

from nudgewebs import errors

WORDED = [
    "InvalidWeb", "InvalidSource", "InvalidQuantity", "InvalidTargets", "InvalidNudge", "InvalidOrder",
    "InvalidLinks", "InvalidKind", "InvalidFort", "InvalidFilling", "InvalidState", "InvalidGiven", "InvalidHill",
    "InvalidNumber", "InvalidChange", "InvalidCommand", "NoLine", "LineThere", "NothingToUndo",
]
ALL = WORDED + ["TooLarge", "InvalidText"]
ARGUMENTS = [None, 0, 8, 20, "word"]


class Errors(unittest.TestCase):
    def test_the_base_derives_directly_from_value_error(self):
        self.assertEqual(errors.WebError.__bases__, (ValueError,))

    def test_each_class_derives_directly_from_the_base(self):
        for name in ALL:
            self.assertEqual(getattr(errors, name).__bases__, (errors.WebError,), name)

    def test_an_error_is_of_no_other_class(self):
        for name in ALL:
            error = getattr(errors, name)("word")
            self.assertEqual([other for other in ALL if isinstance(error, getattr(errors, other))], [name])
            self.assertIsInstance(error, errors.WebError)

    def test_there_are_no_other_classes(self):
        found = [name for name, value in vars(errors).items() if isinstance(value, type)]
        self.assertEqual(sorted(found), sorted(ALL + ["WebError"]))
        for name in found:
            self.assertEqual(getattr(errors, name).__module__, "nudgewebs.errors")

    def test_most_take_one_string(self):
        for name in WORDED + ["WebError"]:
            error = getattr(errors, name)("some words")
            self.assertEqual((str(error), error.args), ("some words", ("some words",)))

    def test_too_large_keeps_its_limit(self):
        for limit in ARGUMENTS:
            self.assertIs(errors.TooLarge(limit).limit, limit)

    def test_invalid_text_keeps_its_place(self):
        for place in ARGUMENTS:
            self.assertIs(errors.InvalidText(place).place, place)

    def test_both_take_just_one_value(self):
        for made in [errors.TooLarge, errors.InvalidText]:
            self.assertRaises(TypeError, made)
            self.assertRaises(TypeError, made, 1, 2)

    def test_each_can_be_raised_and_caught_by_its_name_and_as_a_value_error(self):
        for name in ALL:
            for caught in [getattr(errors, name), errors.WebError, ValueError]:
                with self.assertRaises(caught):
                    raise getattr(errors, name)("word")


if __name__ == "__main__":
    unittest.main()
