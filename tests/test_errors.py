"""The interface's section "revokelog/errors.py", and 0.3: fields hold what was passed."""

import unittest

from revokelog import errors
from revokelog.errors import LogError

FIELDS = {
    "BadLayout": ["why"],
    "BadBlock": ["block"],
    "BadValue": [],
    "BadCount": ["count"],
    "BadChoice": ["at"],
    "TooMany": ["limit"],
    "NoSpace": ["needed", "free"],
    "BadPath": ["path"],
    "NoEntry": ["path"],
    "HasEntry": ["path"],
    "NotEmpty": ["path"],
    "NoRoom": ["needed", "free"],
    "BadRule": ["rule"],
    "BadStep": ["at"],
}


def sample(name):
    """An error of this class, and the values that its fields must hold."""
    if FIELDS[name] == ["why"]:
        values = ["slots"]
    else:
        values = [[place] for place in range(len(FIELDS[name]))]
    return getattr(errors, name)(*values), values


class BaseTest(unittest.TestCase):
    def test_log_error_is_a_value_error(self):
        self.assertEqual(LogError.__bases__, (ValueError,))
        self.assertEqual(LogError("short").why, "short")

    def test_each_class_has_the_one_base(self):
        for name in FIELDS:
            with self.subTest(name):
                self.assertEqual(getattr(errors, name).__bases__, (LogError,))

    def test_the_file_defines_these_classes_and_no_others(self):
        defined = [name for name, thing in vars(errors).items() if isinstance(thing, type)]
        self.assertEqual(sorted(defined), sorted(["LogError", *FIELDS]))
        for name in defined:
            self.assertEqual(getattr(errors, name).__module__, "revokelog.errors")

    def test_no_other_class_catches_an_error(self):
        for name in FIELDS:
            error, _ = sample(name)
            catching = [other for other in FIELDS if isinstance(error, getattr(errors, other))]
            self.assertEqual(catching, [name])

    def test_the_base_and_value_error_catch_every_error(self):
        for name in FIELDS:
            error, _ = sample(name)
            for base in (LogError, ValueError):
                with self.subTest(name, base=base), self.assertRaises(base):
                    raise error


class FieldsTest(unittest.TestCase):
    def test_fields_hold_the_values_that_were_passed(self):
        for name, fields in FIELDS.items():
            error, values = sample(name)
            for field, value in zip(fields, values):
                with self.subTest(name, field=field):
                    self.assertIs(getattr(error, field), value)

    def test_every_error_has_a_short_text(self):
        for name in FIELDS:
            with self.subTest(name):
                why = sample(name)[0].why
                self.assertIsInstance(why, str)
                self.assertTrue(0 < len(why) < 80)

    def test_bad_value_takes_the_why_of_a_point(self):
        self.assertEqual(errors.BadValue("header").why, "header")

    def test_an_error_does_not_need_a_value_that_can_be_shown(self):
        class Hidden:
            def __repr__(self):
                raise AssertionError("shown")

            __str__ = __repr__

        hidden = Hidden()
        for name, fields in FIELDS.items():
            if fields and fields != ["why"]:
                error = getattr(errors, name)(*[hidden] * len(fields))
                self.assertIs(getattr(error, fields[-1]), hidden)
                self.assertIsInstance(str(error), str)


if __name__ == "__main__":
    unittest.main()
