"""Point 6.7 of the document: names, get and tree, and homes that hold no store."""

import unittest

from revokelog.directories import is_directory, is_map
from revokelog.errors import NoEntry
from revokelog.layouts import Layout
from revokelog.stores import Store
from support import journal_state, raised, store_state


def sample():
    """Homes 2 to 5: the directory /a, the file /a/f of two values, the directory /a/b; 6 and 7 are free."""
    store = Store(Layout(64, 8))
    store.make("/a")
    store.put("/a/f", ["x", ("y", 1)])
    store.make("/a/b")
    store.put("/e", [])
    store.commit()
    return store


MAP = (1, 1, 1, 2, 2, 1, 0, 0)
ROOT = (("a", "dir", 2), ("e", "file", ()))
FOLDER = (("b", "dir", 5), ("f", "file", (3, 4)))
TREE = [("/a", None), ("/a/b", None), ("/a/f", ("x", ("y", 1))), ("/e", ())]


class NamesTest(unittest.TestCase):
    def test_names_ascend(self):
        store = sample()
        for name in ("z", "b", "aa", "ab"):
            store.put("/" + name, [])
        self.assertEqual(store.names("/"), ["a", "aa", "ab", "b", "e", "z"])
        self.assertEqual((store.names("/a"), store.names("/a/b")), (["b", "f"], []))

    def test_no_directory(self):
        store = sample()
        before = store_state(store)
        for path in ("/b", "/a/c", "/a/f", "/e", "/ab"):
            self.assertEqual(raised(self, NoEntry, store.names, path).path, path)
        for path, parent in (("/x/y", "/x"), ("/e/y", "/e"), ("/a/f/y/z", "/a/f")):
            self.assertEqual(raised(self, NoEntry, store.names, path).path, parent)
        self.assertEqual(store_state(store), before)


class GetTest(unittest.TestCase):
    def test_values(self):
        store = sample()
        self.assertEqual((store.get("/a/f"), store.get("/e")), (("x", ("y", 1)), ()))

    def test_no_file(self):
        store = sample()
        before = store_state(store)
        for path in ("/", "/a", "/a/b", "/b", "/a/c"):
            self.assertEqual(raised(self, NoEntry, store.get, path).path, path)
        for path, parent in (("/x/y", "/x"), ("/e/y", "/e"), ("/a/b/y/z", "/a/b/y")):
            self.assertEqual(raised(self, NoEntry, store.get, path).path, parent)
        self.assertEqual(store_state(store), before)

    def test_as_the_disk_has_them_now(self):
        store = sample()
        store.disk().write(store.layout().home_block(4), "z")
        self.assertEqual(store.get("/a/f"), ("x", "z"))
        self.assertEqual(store.tree()[2], ("/a/f", ("x", "z")))

    def test_not_as_the_journal_has_them(self):
        store = sample()
        store.journal().log(3, "logged")
        self.assertEqual(store.get("/a/f"), ("x", ("y", 1)))
        self.assertEqual(store.tree(), TREE)


class TreeTest(unittest.TestCase):
    def test_everything_but_the_root(self):
        store = sample()
        self.assertEqual((store.tree(), store.tree()), (TREE, TREE))
        self.assertEqual(Store(Layout(8, 4)).tree(), [])

    def test_the_sample_is_what_these_tests_take_it_for(self):
        journal = sample().journal()
        self.assertEqual([journal.value(home) for home in (0, 1, 2, 5)], [MAP, ROOT, FOLDER, ()])

    def test_paths_ascend(self):
        store = Store(Layout(64, 32))
        for path in ("/b", "/a", "/ab", "/a/b", "/a/b/a", "/ab/a", "/aa"):
            store.make(path)
        store.put("/a/a", [1])
        store.put("/a/c", [])
        paths = [path for path, _ in store.tree()]
        self.assertEqual(paths, sorted(paths))
        self.assertEqual(paths, ["/a", "/a/a", "/a/b", "/a/b/a", "/a/c", "/aa", "/ab", "/ab/a", "/b"])

    def test_deep_directories(self):
        store = Store(Layout(64, 32))
        path = ""
        for _ in range(29):
            path += "/a"
            store.make(path)
        store.put(path + "/f", ["x"])
        self.assertEqual(len(store.tree()), 30)
        self.assertEqual(store.tree()[-1], (path + "/f", ("x",)))

    def test_uncommitted_committed_and_written_home(self):
        store = sample()
        store.make("/z")
        expected = [*TREE, ("/z", None)]
        self.assertEqual(store.tree(), expected)
        store.commit()
        self.assertEqual(store.tree(), expected)
        store.checkpoint()
        self.assertEqual(store.tree(), expected)
        store.checkpoint()
        self.assertEqual(store.tree(), expected)

    def test_nothing_is_changed(self):
        store = sample()
        before = journal_state(store.journal())
        store.tree()
        self.assertEqual(journal_state(store.journal()), before)


class ReadAtEachCallTest(unittest.TestCase):
    """A store keeps neither the map nor the directories itself."""

    def test_what_is_logged_past_the_store(self):
        store = sample()
        store.journal().log(0, (1, 1, 1, 2, 2, 1, 1, 0))
        store.journal().log(1, (("a", "dir", 2), ("e", "file", ()), ("g", "dir", 6)))
        store.journal().log(6, ())
        self.assertEqual((store.tree(), store.names("/")), ([*TREE, ("/g", None)], ["a", "e", "g"]))
        store.make("/g/h")
        self.assertEqual(store.journal().value(6), (("h", "dir", 7),))

    def test_what_is_written_past_the_store(self):
        store = Store(Layout(64, 4))
        store.disk().write(store.layout().home_block(0), (1, 1, 2, 0))
        store.disk().write(store.layout().home_block(1), (("f", "file", (2,)),))
        store.disk().write(store.layout().home_block(2), "x")
        self.assertEqual((store.tree(), store.names("/"), store.get("/f")), ([("/f", ("x",))], ["f"], ("x",)))

    def test_what_was_no_store_may_be_one_again(self):
        store = sample()
        store.journal().log(0, 0)
        self.assertIsNone(store.tree())
        store.journal().log(0, MAP)
        self.assertEqual((store.tree(), store.names("/")), (TREE, ["a", "e"]))


class FormTest(unittest.TestCase):
    """The forms of 6.1."""

    def test_directories(self):
        for thing in ((), ROOT, FOLDER, (("a", "file", ()), ("abcdefgh", "dir", 2))):
            self.assertIs(is_directory(thing), True, thing)

    def test_no_directories(self):
        for entry in (
            ("b", "data", (5,)), ("b", "", ()), ("b", "dir", (5,)), ("b", "dir", "5"), ("b", "file", 5),
            ("b", "file", ("5",)), ("b", "file", ((5,),)), ("b", "file", "55"), ("b", "dir"), ("B", "dir", 5),
        ):
            self.assertIs(is_directory((entry,)), False, entry)

    def test_maps(self):
        self.assertEqual([is_map(MAP, homes) for homes in (7, 8, 9)], [False, True, False])


class NoStoreTest(unittest.TestCase):
    def check(self, changes, expected=None):
        """The tree if these homes have other values; and if they hold what they held again."""
        store = sample()
        old = [(home, store.journal().value(home)) for home, _ in changes]
        for home, value in changes:
            store.journal().log(home, value)
        before = journal_state(store.journal())
        self.assertEqual(store.tree(), expected, changes)
        self.assertEqual(journal_state(store.journal()), before)
        self.assertIs(store.journal().medium, store.disk())
        self.assertEqual(store.layout(), Layout(64, 8))
        for home, value in old:
            store.journal().log(home, value)
        self.assertEqual(store.tree(), TREE)

    def test_the_unchanged_sample(self):
        self.check([(0, MAP), (1, ROOT), (2, FOLDER), (5, ())], TREE)

    def test_no_map(self):
        for value in (
            0, "", "11122100", (), MAP[:-1], (*MAP, 0), (MAP,), (1, 1, 1, 2, 2, 1, 0, 3), (1, 1, 1, 2, 2, 1, 0, -1),
            (1, 1, 1, 2, 2, 1, 0, "0"), (1, 1, 1, 2, 2, 1, 0, ()), (1, 1, 1, 2, 2, 1, 0, (0,)),
            (0, 1, 1, 2, 2, 1, 0, 0), (1, 0, 1, 2, 2, 1, 0, 0), (2, 1, 1, 2, 2, 1, 0, 0), (1, 2, 1, 2, 2, 1, 0, 0),
        ):
            self.check([(0, value)])

    def test_no_directory(self):
        for value in (0, "", "bf", 5, (5,), ("b", "dir", 5), ((),), (("b", "dir"),), (("b", "dir", 5, 5),)):
            self.check([(1, value)])
            self.check([(2, value)])
            self.check([(5, value)])

    def test_entries_that_are_none(self):
        last = ("f", "file", (3, 4))
        for entry in (
            ("B", "dir", 5), ("", "dir", 5), ("b" * 9, "dir", 5), ("b1", "dir", 5), ("/b", "dir", 5), (2, "dir", 5),
            (("b",), "dir", 5), ("b", "Dir", 5), ("b", 1, 5), ("b", "", 5), ("b", ("dir",), 5), ("b", "dir", (5,)),
            ("b", "dir", "5"), ("b", "dir", ()), ("b", "file", 5), ("b", "file", "5"), ("b", "data", (5,)),
            ["b", "dir", 5][0],
        ):
            self.check([(2, (entry, last))])
        first = ("b", "dir", 5)
        for homes in (3, "34", ("3", 4), ((3,), 4), ((3, 4),)):
            self.check([(2, (first, ("f", "file", homes)))])

    def test_names_that_do_not_ascend(self):
        self.check([(2, (FOLDER[1], FOLDER[0]))])
        self.check([(1, (("e", "file", ()), ("a", "dir", 2)))])
        self.check([(1, (("a", "dir", 2), ("a", "file", ())))])
        self.check([(1, (*ROOT, ("e", "file", ())))])

    def test_homes_that_are_marked_otherwise(self):
        for home, wrong in ((2, (0, 2)), (3, (0, 1)), (4, (0, 1)), (5, (0, 2))):
            for mark in wrong:
                self.check([(0, (*MAP[:home], mark, *MAP[home + 1:]))])
        self.check([(2, (("b", "file", (5,)), ("f", "file", (3, 4))))])
        self.check([(2, (("b", "dir", 5), ("f", "dir", 3)))])

    def test_homes_that_are_none(self):
        for home in (8, 32, -1, -3, 10 ** 30):
            self.check([(2, (("b", "dir", home), FOLDER[1]))])
            self.check([(2, (FOLDER[0], ("f", "file", (3, home))))])
            self.check([(1, (*ROOT, ("g", "dir", home)))])
            self.check([(1, (*ROOT, ("g", "file", (home,))))])

    def test_entries_that_share_a_home(self):
        self.check([(1, (*ROOT, ("g", "file", (3,))))])
        self.check([(1, (*ROOT, ("g", "dir", 5)))])
        self.check([(1, (("a", "dir", 2), ("e", "dir", 2)))])
        self.check([(2, (*FOLDER, ("g", "file", (4,))))])
        self.check([(5, (("g", "file", (3, 4)),))])
        # A file has one home for each value, so it does not use one twice either.
        self.check([(2, (("b", "dir", 5), ("f", "file", (3, 3, 4))))])

    def test_a_directory_in_itself(self):
        self.check([(5, (("c", "dir", 5),))])
        self.check([(5, (("c", "dir", 2),))])
        self.check([(2, (("a", "dir", 2), *FOLDER))])

    def test_entries_with_home_0_or_1(self):
        for home in (0, 1):
            self.check([(1, (*ROOT, ("g", "dir", home)))])
            self.check([(1, (*ROOT, ("g", "file", (home,))))])
            self.check([(5, (("g", "dir", home),))])

    def test_marked_homes_that_nothing_uses(self):
        for home in (6, 7):
            for mark in (1, 2):
                self.check([(0, (*MAP[:home], mark, *MAP[home + 1:]))])
        self.check([(1, (("e", "file", ()),))])
        self.check([(2, (("b", "dir", 5),))])
        self.check([(2, (FOLDER[1],))])
        self.check([(2, (("b", "dir", 5), ("f", "file", (3,))))])

    def test_directories_that_only_hold_each_other(self):
        self.check([(0, (1, 1, 1, 2, 2, 1, 1, 1)), (6, (("a", "dir", 7),)), (7, (("a", "dir", 6),))])

    def test_what_stands_in_free_homes_plays_no_part(self):
        self.check([(6, "any"), (7, (("a", "dir", 7),))], TREE)


if __name__ == "__main__":
    unittest.main()
