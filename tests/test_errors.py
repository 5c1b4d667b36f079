import unittest

from stringheld import errors

NAMES = ("BadKinds", "BadText", "BadLibrary", "BadPlace", "BadRule", "BadArguments", "BadRules", "NotText",
         "InvalidText", "NotNow", "NothingToUndo")


class ErrorsTest(unittest.TestCase):
    def test_base_is_a_direct_subclass_of_value_error(self):
        self.assertEqual(errors.TextError.__bases__, (ValueError,))

    def test_all_others_are_direct_subclasses_of_the_base(self):
        for name in NAMES:
            with self.subTest(name):
                self.assertEqual(getattr(errors, name).__bases__, (errors.TextError,))

    def test_there_are_no_other_errors(self):
        found = [name for name, value in vars(errors).items() if isinstance(value, type)]
        self.assertEqual(sorted(found), sorted(NAMES + ("TextError",)))

    def test_errors_have_no_fields(self):
        for name in NAMES:
            with self.subTest(name):
                error = getattr(errors, name)("why")
                self.assertEqual((str(error), vars(error)), ("why", {}))

    def test_classes_are_defined_in_the_file(self):
        for name in NAMES + ("TextError",):
            with self.subTest(name):
                self.assertEqual(getattr(errors, name).__module__, "stringheld.errors")


if __name__ == "__main__":
    unittest.main()
