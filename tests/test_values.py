"""0.2 and 1.1: what is an integer, and what is a value."""

import unittest

from revokelog.values import is_between, is_integer, is_value
from support import NO_INTEGERS, NO_VALUES, nested


class IntegerTest(unittest.TestCase):
    def test_integers(self):
        for thing in (0, 1, -1, 10 ** 40):
            self.assertIs(is_integer(thing), True)

    def test_other_things(self):
        for thing in NO_INTEGERS:
            with self.subTest(repr(thing)):
                self.assertIs(is_integer(thing), False)

    def test_a_range_holds_both_its_ends(self):
        inside = [thing for thing in range(-1, 6) if is_between(thing, 1, 4)]
        self.assertEqual(inside, [1, 2, 3, 4])

    def test_a_range_holds_no_other_thing(self):
        for thing in NO_INTEGERS:
            with self.subTest(repr(thing)):
                self.assertIs(is_between(thing, 0, 9), False)


class ValueTest(unittest.TestCase):
    def test_values(self):
        for thing in (0, -5, 10 ** 40, "", "a", (), (1,), ("a", (2, ()), "b")):
            with self.subTest(repr(thing)):
                self.assertIs(is_value(thing, 8), True)

    def test_other_things(self):
        for thing in NO_VALUES:
            with self.subTest(repr(thing)):
                self.assertIs(is_value(thing, 8), False)

    def test_depth(self):
        self.assertEqual([is_value(nested(8), deepest) for deepest in (7, 8, 9)], [False, True, True])
        self.assertIs(is_value((1, 2, nested(8)), 8), False)
        self.assertIs(is_value(1, 0), True)

    def test_a_tuple_far_too_deep(self):
        self.assertIs(is_value(nested(100000), 8), False)


if __name__ == "__main__":
    unittest.main()
