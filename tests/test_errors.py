"""Point 102: the errors."""

import inspect
import unittest

from mustercall import errors

PLAIN_NAMES = ("BadText", "BadPayload", "BadLetter", "BadMember", "BadView", "DiskError", "DiskCrashed")
NAMES = PLAIN_NAMES + ("BadSchedule",)


class ErrorTest(unittest.TestCase):
    def test_muster_error_is_a_direct_subclass_of_value_error(self):
        self.assertEqual(errors.MusterError.__bases__, (ValueError,))

    def test_each_error_is_a_direct_subclass_of_muster_error(self):
        for name in NAMES:
            with self.subTest(name=name):
                self.assertEqual(getattr(errors, name).__bases__, (errors.MusterError,))

    def test_no_error_is_a_subclass_of_another_one(self):
        for name in NAMES:
            for other in NAMES:
                if name != other:
                    with self.subTest(name=name, other=other):
                        self.assertFalse(issubclass(getattr(errors, name), getattr(errors, other)))

    def test_the_module_has_no_further_classes(self):
        classes = [name for name, value in vars(errors).items() if inspect.isclass(value)]
        self.assertEqual(sorted(classes), sorted(NAMES + ("MusterError",)))

    def test_each_error_is_defined_in_its_module(self):
        for name in NAMES + ("MusterError",):
            self.assertEqual(getattr(errors, name).__module__, "mustercall.errors")

    def test_errors_are_created_without_arguments(self):
        for name in PLAIN_NAMES + ("MusterError",):
            with self.subTest(name=name):
                error = getattr(errors, name)()
                self.assertIsInstance(error, errors.MusterError)
                self.assertIsInstance(error, ValueError)

    def test_errors_are_caught_as_muster_error(self):
        for name in PLAIN_NAMES:
            with self.assertRaises(errors.MusterError):
                raise getattr(errors, name)()


class BadScheduleTest(unittest.TestCase):
    def test_it_has_its_line_and_its_reason(self):
        for line, reason in ((0, "act"), (17, "number"), (1, "")):
            error = errors.BadSchedule(line, reason)
            self.assertEqual((error.line, error.reason), (line, reason))

    def test_each_error_has_its_own_line_and_reason(self):
        one = errors.BadSchedule(1, "verb")
        other = errors.BadSchedule(2, "count")
        self.assertEqual((one.line, one.reason), (1, "verb"))
        self.assertEqual((other.line, other.reason), (2, "count"))

    def test_its_arguments_may_be_named(self):
        error = errors.BadSchedule(line=3, reason="text")
        self.assertEqual((error.line, error.reason), (3, "text"))

    def test_it_needs_both_arguments(self):
        with self.assertRaises(TypeError):
            errors.BadSchedule()
        with self.assertRaises(TypeError):
            errors.BadSchedule(3)

    def test_it_is_caught_as_muster_error_and_as_value_error(self):
        for base in (errors.MusterError, ValueError):
            with self.assertRaises(base) as caught:
                raise errors.BadSchedule(4, "group")
            self.assertEqual((caught.exception.line, caught.exception.reason), (4, "group"))


if __name__ == "__main__":
    unittest.main()
