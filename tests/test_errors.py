"""The interface's section juststeps/errors.py."""

import unittest

from juststeps import errors

PLAIN = ("BadProgram BadCore BadName BadRow BadKind BadArgs BadLimit BadPrices BadLog BadImage Unfit BadEffort "
         "BadMeasures BadNumber BadBook BadNever BadGoal BadHints BadShowings BadIndex BadNeeds BadRatio ZeroBottom "
         "BadSystem BadLine BadTemplate BadPoint BadWeights BadLevels NotNew TooGreat").split()
FIELDS = {
    "BadText": ("place",),
    "NotChecked": ("what",),
    "NotLet": ("index",),
    "BadListing": ("line",),
    "Refused": ("name", "row", "address"),
}
WORTHS = {"place": 12, "what": ("fit", "f"), "index": 3, "line": 4, "name": "f", "row": 5, "address": 6}


class ErrorsTest(unittest.TestCase):
    def test_there_are_thirty_six_and_the_one_above(self):
        found = [name for name, thing in vars(errors).items() if isinstance(thing, type)]
        self.assertEqual(sorted(found), sorted(PLAIN + list(FIELDS) + ["StepError"]))
        self.assertEqual(len(found), 37)

    def test_each_stands_directly_under_step_error(self):
        self.assertEqual(errors.StepError.__bases__, (ValueError,))
        for name in PLAIN + list(FIELDS):
            self.assertEqual(getattr(errors, name).__bases__, (errors.StepError,), name)
            self.assertEqual(getattr(errors, name).__module__, "juststeps.errors")

    def test_those_without_fields_are_made_with_a_text(self):
        for name in PLAIN + ["StepError"]:
            self.assertEqual(str(getattr(errors, name)("told so")), "told so")

    def test_fields_by_position_and_by_name(self):
        for name, fields in FIELDS.items():
            made = getattr(errors, name)
            worths = {field: WORTHS[field] for field in fields}
            for error in (made(*worths.values()), made(**worths)):
                self.assertEqual({field: getattr(error, field) for field in fields}, worths)
            for wrong in ((), tuple(worths.values()) + (1,)):
                with self.assertRaises(TypeError):
                    made(*wrong)

    def test_an_error_with_fields_has_some_wording(self):
        for name, fields in FIELDS.items():
            self.assertTrue(str(getattr(errors, name)(*[WORTHS[field] for field in fields])))


if __name__ == "__main__":
    unittest.main()
