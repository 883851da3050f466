"""[5] The errors."""

import slitsheets.errors as errors
from slitsheets.errors import SheetError
from support import Case, any_values

WITH_VALUE = [
    "InvalidMeasure", "InvalidNumber", "InvalidRoot", "InvalidCutting", "InvalidDeed", "InvalidWord",
    "InvalidList", "InvalidPoint", "InvalidTable", "InvalidFloor", "Unlike", "TooMany",
]


class Errors(Case):

    def test_sheet_error_is_a_value_error_without_a_field(self):
        self.assertEqual(SheetError.__bases__, (ValueError,))
        self.assertFalse(hasattr(SheetError(), "value"))
        self.assertFalse(hasattr(SheetError, "value"))

    def test_each_error_stands_directly_under_sheet_error(self):
        for name in WITH_VALUE:
            self.assertEqual(getattr(errors, name).__bases__, (SheetError,), name)

    def test_there_are_just_thirteen(self):
        found = [name for name, thing in vars(errors).items() if isinstance(thing, type)]
        self.assertEqual(sorted(found), sorted(WITH_VALUE + ["SheetError"]))

    def test_each_error_keeps_the_very_value(self):
        for name in WITH_VALUE:
            error = getattr(errors, name)
            for value in any_values() + [0, 7, 10 ** 40]:
                self.assertIs(error(value).value, value, name)
                self.assertIs(error(value=value).value, value, name)

    def test_the_value_may_be_left_out(self):
        for name in WITH_VALUE:
            self.assertIsNone(getattr(errors, name)().value, name)

    def test_the_value_is_the_one_argument(self):
        for name in WITH_VALUE:
            with self.assertRaises(TypeError, msg=name):
                getattr(errors, name)(1, 2)

    def test_two_errors_of_one_kind_have_fields_of_their_own(self):
        for name in WITH_VALUE:
            one, other = getattr(errors, name)(1), getattr(errors, name)(2)
            self.assertEqual((one.value, other.value), (1, 2), name)

    def test_each_error_can_be_raised_and_caught_by_its_name(self):
        for name in WITH_VALUE:
            error = getattr(errors, name)
            for caught_by in (error, SheetError, ValueError):
                with self.assertRaises(caught_by) as caught:
                    raise error([name])
                self.assert_same(caught.exception.value, [name])
            others = [getattr(errors, other) for other in WITH_VALUE if other != name]
            self.assertFalse(isinstance(error(), tuple(others)), name)
