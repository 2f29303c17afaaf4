"""The error classes: bases, fields, constructors."""

import inspect
import unittest

from triplefree import errors

SET_ERRORS = {
    "InvalidNumber": ["given"],
    "InvalidModulus": ["given"],
    "InvalidMembers": ["index"],
    "InvalidStart": ["index"],
    "InvalidCell": ["part"],
    "InvalidCertificate": ["part"],
    "InvalidText": ["row", "word"],
}
STATE_ERRORS = {
    "NotFree": ["low", "middle", "high"],
    "NotServed": ["remainder"],
    "IsMember": ["given"],
    "NotCovered": ["given"],
    "NotRuled": ["limit"],
    "Refused": ["reason"],
}
LIMIT_ERRORS = {"TooLarge": ["limit"]}


class ErrorsTest(unittest.TestCase):
    def test_bases_of_the_bases(self):
        self.assertEqual(errors.SetError.__bases__, (ValueError,))
        self.assertEqual(errors.StateError.__bases__, (RuntimeError,))
        self.assertEqual(errors.LimitError.__bases__, (OverflowError,))

    def test_each_error_has_its_base_and_fields(self):
        families = [(errors.SetError, SET_ERRORS), (errors.StateError, STATE_ERRORS), (errors.LimitError, LIMIT_ERRORS)]
        for base, table in families:
            for name, fields in table.items():
                with self.subTest(name=name):
                    made = getattr(errors, name)
                    self.assertEqual(made.__bases__, (base,))
                    self.assertEqual(made.__module__, "triplefree.errors")
                    self.check_fields(made, fields)

    def check_fields(self, made, fields):
        values = [[place] for place in range(len(fields))]
        error = made(*values)
        for field, value in zip(fields, values):
            self.assertIs(getattr(error, field), value)
        self.assertEqual(sorted(vars(error)), sorted(fields))
        self.assertIsInstance(str(error), str)
        self.assertEqual(list(inspect.signature(made).parameters), fields)
        with self.assertRaises(TypeError):
            made(*values, 1)

    def test_fields_may_have_any_value(self):
        for value in (None, "cell", 0, -5, True, (1, 2, 3), [1], "free", 10 ** 5000):
            self.assertIs(errors.InvalidNumber(value).given, value)
            self.assertIs(errors.InvalidMembers(value).index, value)
            self.assertIs(errors.Refused(value).reason, value)
            self.assertIsInstance(str(errors.InvalidNumber(value)), str)

    def test_nothing_to_undo_has_a_message(self):
        self.assertEqual(errors.NothingToUndo.__bases__, (errors.StateError,))
        error = errors.NothingToUndo("there is no change")
        self.assertEqual(str(error), "there is no change")

    def test_there_are_no_other_errors(self):
        names = sorted([*SET_ERRORS, *STATE_ERRORS, *LIMIT_ERRORS, "NothingToUndo", "SetError", "StateError", "LimitError"])
        found = sorted(name for name, value in vars(errors).items() if inspect.isclass(value))
        self.assertEqual(found, names)

    def test_families_are_caught_by_their_bases(self):
        for base in (errors.SetError, ValueError):
            with self.assertRaises(base):
                raise errors.InvalidText(1, 5)
        for base in (errors.StateError, RuntimeError):
            with self.assertRaises(base):
                raise errors.NotFree(0, 1, 2)
        for base in (errors.LimitError, OverflowError):
            with self.assertRaises(base):
                raise errors.TooLarge(2000)


if __name__ == "__main__":
    unittest.main()
