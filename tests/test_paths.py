"""Point 6.2 of the document: names, paths and parents."""

import unittest
from string import ascii_lowercase

from revokelog.paths import is_below, is_name, is_path, last_name, parents_of
from support import NO_PATHS


class NameTest(unittest.TestCase):
    def test_names(self):
        for thing in ("a", "z", "ab", "dir", "abcdefgh", "zzzzzzzz", *ascii_lowercase):
            self.assertIs(is_name(thing), True, thing)

    def test_other_things(self):
        for thing in ("", "abcdefghi", "A", "aB", "a1", "a b", "a/b", "/", "/a", "a\n", "\u00e4", "`", "{", *NO_PATHS):
            if thing != "a":
                with self.subTest(repr(thing)):
                    self.assertIs(is_name(thing), False)


class PathTest(unittest.TestCase):
    def test_paths(self):
        for thing in ("/", "/a", "/z", "/abcdefgh", "/a/b", "/abcdefgh/abcdefgh", "/a" * 200):
            self.assertIs(is_path(thing), True, thing)

    def test_other_things(self):
        for thing in NO_PATHS:
            with self.subTest(repr(thing)):
                self.assertIs(is_path(thing), False)

    def test_parents(self):
        self.assertEqual(parents_of("/"), [])
        self.assertEqual(parents_of("/a"), ["/"])
        self.assertEqual(parents_of("/ab/c"), ["/", "/ab"])
        self.assertEqual(parents_of("/a/bc/d"), ["/", "/a", "/a/bc"])

    def test_below(self):
        below = [path for path in ("/", "/a", "/ab", "/a/b", "/a/b/c", "/ab/a", "/b/a") if is_below(path, "/a")]
        self.assertEqual(below, ["/a/b", "/a/b/c"])

    def test_last_name(self):
        self.assertEqual([last_name(path) for path in ("/a", "/ab/c", "/a/bc/def")], ["a", "c", "def"])


if __name__ == "__main__":
    unittest.main()
