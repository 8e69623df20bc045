"""Stage 6 of the document: what the methods of a store do, points 6.1 to 6.6 and 6.8."""

import unittest

from revokelog.errors import BadPath, BadValue, HasEntry, NoEntry, NoRoom, NoSpace, NotEmpty
from revokelog.journals import Journal
from revokelog.layouts import Layout
from revokelog.records import transaction_at
from revokelog.stores import Store
from support import FLUSH, NO_PATHS, NO_VALUES, nested, raised, spoil, store_state


def settled(layout, *made, without=None):
    """A store with these directories and files, committed and written home."""
    store = Store(layout, without=without)
    for path, values in made:
        if values is None:
            store.make(path)
        else:
            store.put(path, values)
    store.commit()
    while store.checkpoint():
        pass
    return store


def home_writes(store, copies):
    return [("write", store.layout().home_block(home), value) for home, value in copies]


def commit_events(store, slot, copies, number):
    """The events of a commit that writes these copies (at most eight) and no revoke."""
    homes = tuple(home for home, _ in copies)
    records = [("descriptor", number, homes), *[("copy", number, value) for _, value in copies], ("commit", number)]
    blocks = [store.layout().slot_block((slot + step) % store.layout().slots()) for step in range(len(records))]
    written = [("write", block, record) for block, record in zip(blocks, records)]
    return [*written[:-1], FLUSH, written[-1], FLUSH]


class StoreTest(unittest.TestCase):
    """Help for the classes below."""

    def check_raises(self, store, error_class, call, *args, **fields):
        """The call raises this error with these fields, and changes nothing."""
        before = store_state(store)
        error = raised(self, error_class, call, *args)
        for name, value in fields.items():
            self.assertIs(type(getattr(error, name)), type(value))
            self.assertEqual(getattr(error, name), value)
        self.assertEqual(store_state(store), before)

    def check_logged(self, store, call, copies, revokes=(), written=()):
        """The call, from an empty running transaction, logs and writes just this."""
        self.assertEqual(store.journal().running(), ([], []))
        many = len(store.disk().events())
        self.assertIsNone(call())
        self.assertEqual(store.journal().running(), (copies, list(revokes)))
        self.assertEqual(store.disk().events()[many:], home_writes(store, written))


class NewStoreTest(StoreTest):
    """6.1"""

    def test_the_parts(self):
        layout = Layout(16, 6)
        store = Store(layout)
        self.assertIs(store.layout(), layout)
        self.assertIs(type(store.journal()), Journal)
        self.assertIs(store.disk(), store.journal().medium)
        self.assertIs(store.journal().plan, layout)
        self.assertIsNone(store.journal().without)
        self.assertEqual(store.disk().blocks(), 23)

    def test_the_events_one_by_one(self):
        store = Store(Layout(16, 6))
        self.assertEqual(store.disk().events(), [
            ("write", 0, ("tail", 1, 0)), FLUSH,
            ("write", 1, ("descriptor", 1, (0, 1))), ("write", 2, ("copy", 1, (1, 1, 0, 0, 0, 0))),
            ("write", 3, ("copy", 1, ())), FLUSH, ("write", 4, ("commit", 1)), FLUSH,
            ("write", 17, (1, 1, 0, 0, 0, 0)), ("write", 18, ()), FLUSH, ("write", 0, ("tail", 2, 4)), FLUSH,
        ])

    def test_it_is_empty(self):
        for layout in (Layout(8, 4), Layout(64, 32)):
            store = Store(layout)
            self.assertEqual((store.tree(), store.names("/")), ([], []))
            self.assertEqual(store.journal().running(), ([], []))
            self.assertEqual((store.journal().kept(), store.journal().numbers()), ([], (2, 2)))
            self.assertEqual(store.journal().value(0), (1, 1, *[0] * (layout.homes() - 2)))
            self.assertEqual((store.journal().value(1), store.disk().pending()), ((), []))

    def test_the_transaction_is_in_the_log(self):
        store = Store(Layout(8, 4))
        self.assertEqual(transaction_at(store.layout(), store.disk(), 1, 0), ([(0, (1, 1, 0, 0)), (1, ())], [], 4))

    def test_each_store_has_a_disk_of_its_own(self):
        layout = Layout(32, 8)
        first, second = Store(layout), Store(layout)
        first.make("/a")
        first.put("/a/f", ["x"])
        before = store_state(first)
        second.put("/b", ["y", "z"])
        second.make("/c")
        second.commit()
        second.checkpoint()
        self.assertEqual(store_state(first), before)
        before = store_state(second)
        first.remove("/a/f")
        first.commit()
        self.assertEqual(store_state(second), before)
        self.assertEqual(layout, Layout(32, 8))


class PathsTest(StoreTest):
    """6.2"""

    def calls(self, store):
        return {
            "make": store.make, "put": lambda path: store.put(path, [1]), "remove": store.remove,
            "move": lambda path: store.move(path, "/z"), "goal": lambda path: store.move("/f", path),
            "names": store.names, "get": store.get,
        }

    def test_no_paths(self):
        store = settled(Layout(32, 8), ("/a", None), ("/f", ["x"]))
        for name, call in self.calls(store).items():
            for path in NO_PATHS:
                with self.subTest(name, path=repr(path)):
                    before = store_state(store)
                    self.assertIs(raised(self, BadPath, call, path).path, path)
                    self.assertEqual(store_state(store), before)

    def test_the_first_parent_that_is_no_directory(self):
        store = settled(Layout(32, 8), ("/a", None), ("/a/b", None), ("/f", ["x"]), ("/a/f", []))
        for name, call in self.calls(store).items():
            for path, parent in (
                ("/x/y", "/x"), ("/x/y/z", "/x"), ("/f/y", "/f"), ("/f/y/z", "/f"), ("/a/x/y", "/a/x"),
                ("/a/f/y", "/a/f"), ("/a/b/x/y/z", "/a/b/x"), ("/ab/c", "/ab"), ("/b/c", "/b"),
                ("/a/bb/c", "/a/bb"),
            ):
                if name == "goal" and path.startswith("/f/"):
                    continue
                with self.subTest(name, path=path):
                    self.check_raises(store, NoEntry, call, path, path=parent)

    def test_a_path_far_too_long_for_the_store(self):
        store = Store(Layout(8, 4))
        self.check_raises(store, NoEntry, store.make, "/a" * 500, path="/a")

    def test_a_bad_path_comes_before_other_arguments(self):
        store = settled(Layout(32, 8), ("/a", None), ("/f", ["x"]))
        self.check_raises(store, BadPath, store.put, "a", None, path="a")
        self.check_raises(store, BadPath, store.put, "/A", [1] * 7, path="/A")
        self.check_raises(store, BadPath, store.move, "a", "b", path="a")
        self.check_raises(store, BadPath, store.move, "/x/y", "b", path="b")
        self.check_raises(store, BadPath, store.move, None, None, path=None)

    def test_other_arguments_come_before_the_parents(self):
        store = settled(Layout(32, 8), ("/a", None), ("/f", ["x"]))
        for path in ("/x/y", "/a", "/", "/f/y"):
            self.check_raises(store, BadValue, store.put, path, None, why="values")
            self.check_raises(store, BadValue, store.put, path, [1] * 7, why="values")

    def test_names_of_one_and_of_eight_letters(self):
        store = Store(Layout(64, 8))
        for path in ("/a", "/abcdefgh", "/a/z", "/abcdefgh/zzzzzzzz"):
            self.assertIsNone(store.make(path))
        store.put("/a/abcdefgh", [1])
        self.assertEqual(store.tree(), [
            ("/a", None), ("/a/abcdefgh", (1,)), ("/a/z", None), ("/abcdefgh", None), ("/abcdefgh/zzzzzzzz", None),
        ])
        self.check_raises(store, BadPath, store.make, "/abcdefghi", path="/abcdefghi")


class MakeTest(StoreTest):
    """6.3"""

    def test_the_least_free_home(self):
        store = Store(Layout(64, 8))
        self.check_logged(store, lambda: store.make("/b"), [
            (0, (1, 1, 1, 0, 0, 0, 0, 0)), (1, (("b", "dir", 2),)), (2, ()),
        ])
        store.commit()
        root = (("a", "dir", 3), ("b", "dir", 2))
        self.check_logged(store, lambda: store.make("/a"), [(0, (1, 1, 1, 1, 0, 0, 0, 0)), (1, root), (3, ())])
        store.remove("/b")
        store.commit()
        self.check_logged(store, lambda: store.make("/a/c"), [
            (0, (1, 1, 1, 1, 0, 0, 0, 0)), (2, ()), (3, (("c", "dir", 2),)),
        ])

    def test_document_example(self):
        store = Store(Layout(16, 6))
        store.make("/a")
        self.assertEqual(len(store.disk().events()), 13)
        self.check_raises(store, HasEntry, store.make, "/a", path="/a")
        self.assertEqual((store.commit(), len(store.disk().events())), (2, 20))
        self.assertEqual((store.commit(), len(store.disk().events())), (None, 20))

    def test_entries_ascend_by_name(self):
        store = Store(Layout(64, 32))
        for name in ("m", "b", "z", "ba", "a", "ab", "zz"):
            store.make("/" + name)
        self.assertEqual(store.journal().value(1), (
            ("a", "dir", 6), ("ab", "dir", 7), ("b", "dir", 3), ("ba", "dir", 5), ("m", "dir", 2), ("z", "dir", 4),
            ("zz", "dir", 8),
        ))

    def test_a_home_that_is_free_only_now(self):
        store = settled(Layout(64, 4), ("/a", None), ("/f", ["x"]))
        self.check_raises(store, NoRoom, store.make, "/b", needed=1, free=0)
        store.remove("/f")
        store.make("/b")
        self.assertEqual(store.journal().value(0), (1, 1, 1, 1))
        self.assertEqual(store.journal().value(1), (("a", "dir", 2), ("b", "dir", 3)))

    def test_the_home_of_a_directory_removed_just_now(self):
        store = settled(Layout(64, 4), ("/a", None))
        store.remove("/a")
        store.make("/b")
        self.assertEqual(store.journal().running(), (
            [(0, (1, 1, 1, 0)), (1, (("b", "dir", 2),)), (2, ())], [],
        ))

    def test_something_is_there(self):
        store = settled(Layout(64, 8), ("/a", None), ("/a/b", None), ("/f", ["x"]), ("/a/g", []))
        for path in ("/", "/a", "/a/b", "/f", "/a/g"):
            self.check_raises(store, HasEntry, store.make, path, path=path)

    def test_no_home_is_free(self):
        store = settled(Layout(64, 4), ("/a", None), ("/b", None))
        self.check_raises(store, NoRoom, store.make, "/c", needed=1, free=0)

    def test_the_order_of_the_errors(self):
        store = settled(Layout(64, 4), ("/a", None), ("/b", None))
        self.check_raises(store, BadPath, store.make, "/A", path="/A")
        self.check_raises(store, NoEntry, store.make, "/x/y", path="/x")
        self.check_raises(store, HasEntry, store.make, "/a", path="/a")
        self.check_raises(store, HasEntry, store.make, "/", path="/")


class PutTest(StoreTest):
    """6.4"""

    def test_a_new_file(self):
        store = Store(Layout(64, 8))
        values = ["x", (1, ("y",)), 5]
        self.check_logged(
            store, lambda: store.put("/f", values),
            [(0, (1, 1, 2, 2, 2, 0, 0, 0)), (1, (("f", "file", (2, 3, 4)),))],
            written=[(2, "x"), (3, (1, ("y",))), (4, 5)],
        )
        self.assertEqual((store.get("/f"), values), (("x", (1, ("y",)), 5), ["x", (1, ("y",)), 5]))

    def test_the_data_is_written_at_once_and_not_durable(self):
        store = Store(Layout(64, 8))
        store.put("/f", ("x", "y"))
        first = store.layout().home_block(2)
        self.assertEqual(store.disk().pending(), [(first, "x"), (first + 1, "y")])
        self.assertEqual(store.disk().durable()[first:first + 2], [0, 0])
        store.commit()
        self.assertEqual(store.disk().durable()[first:first + 2], ["x", "y"])

    def test_a_file_without_values(self):
        store = Store(Layout(64, 4))
        for values in ([], ()):
            self.check_logged(store, lambda: store.put("/f", values), [(1, (("f", "file", ()),))])
            self.assertEqual((store.get("/f"), store.tree()), ((), [("/f", ())]))
            store.commit()

    def test_an_empty_file_that_replaces_an_empty_one_is_logged(self):
        store = settled(Layout(64, 4), ("/f", []))
        self.check_logged(store, lambda: store.put("/f", []), [(1, (("f", "file", ()),))])
        self.assertEqual(store.commit(), 3)

    def test_six_and_seven_values(self):
        for kind in (list, tuple):
            store = Store(Layout(64, 32))
            store.put("/f", kind(range(6)))
            self.assertEqual(store.get("/f"), (0, 1, 2, 3, 4, 5))
            self.check_raises(store, BadValue, store.put, "/g", kind(range(7)), why="values")

    def test_values_seven_and_eight_and_nine_deep(self):
        store = Store(Layout(64, 8))
        store.put("/f", [nested(7), nested(8)])
        self.assertEqual(store.get("/f"), (nested(7), nested(8)))
        self.check_raises(store, BadValue, store.put, "/f", [1, nested(9)], why="values")

    def test_values_that_are_none(self):
        store = settled(Layout(64, 8), ("/a", None), ("/f", ["x"]))
        for values in (None, 0, 1, True, False, "", "abc", b"ab", {}, {"a": 1}, {1}, range(2), object()):
            with self.subTest(repr(values)):
                self.check_raises(store, BadValue, store.put, "/f", values, why="values")
        for value in NO_VALUES:
            with self.subTest(repr(value)):
                for values in ([value], (value,), ["a", value], [1, 2, 3, 4, 5, value]):
                    self.check_raises(store, BadValue, store.put, "/g", values, why="values")

    def test_a_file_is_replaced_in_other_homes(self):
        store = settled(Layout(64, 8), ("/f", ["a", "b"]))
        self.check_logged(
            store, lambda: store.put("/f", ["c", "d", "e"]),
            [(0, (1, 1, 0, 0, 2, 2, 2, 0)), (1, (("f", "file", (4, 5, 6)),))],
            written=[(4, "c"), (5, "d"), (6, "e")],
        )
        self.assertEqual(store.get("/f"), ("c", "d", "e"))

    def test_a_file_is_emptied(self):
        store = settled(Layout(64, 8), ("/f", ["a", "b"]))
        self.check_logged(store, lambda: store.put("/f", []), [
            (0, (1, 1, 0, 0, 0, 0, 0, 0)), (1, (("f", "file", ()),)),
        ])

    def test_a_file_replaced_twice_in_one_transaction(self):
        store = settled(Layout(64, 6), ("/f", ["a"]))
        store.put("/f", ["b"])
        self.assertEqual(store.journal().value(1), (("f", "file", (3,)),))
        store.put("/f", ["c"])
        self.assertEqual(store.journal().value(1), (("f", "file", (4,)),))
        # Home 3 was free in the last commit and is free again; home 2 was not.
        store.put("/f", ["d"])
        self.assertEqual(store.journal().value(1), (("f", "file", (3,)),))
        self.assertEqual(store.journal().value(0), (1, 1, 0, 2, 0, 0))
        store.commit()
        store.put("/f", ["e"])
        self.assertEqual(store.journal().value(1), (("f", "file", (2,)),))

    def test_homes_that_are_free_only_now_are_not_taken(self):
        store = settled(Layout(64, 6), ("/a", None), ("/f", ["x"]))
        store.remove("/a")
        store.remove("/f")
        store.put("/g", ["y", "z"])
        self.assertEqual(store.journal().value(1), (("g", "file", (4, 5)),))
        self.check_raises(store, NoRoom, store.put, "/h", ["w"], needed=1, free=0)
        store.commit()
        store.put("/h", ["w", "v"])
        self.assertEqual(store.journal().value(1), (("g", "file", (4, 5)), ("h", "file", (2, 3))))

    def test_a_home_taken_and_freed_since_the_commit_is_taken(self):
        store = settled(Layout(64, 5), ("/a", None))
        store.make("/b")
        store.remove("/b")
        self.check_raises(store, NoRoom, store.put, "/f", [1, 2, 3], needed=3, free=2)
        store.put("/f", [1, 2])
        self.assertEqual(store.journal().value(1), (("a", "dir", 2), ("f", "file", (3, 4))))
        self.assertEqual(store.journal().running()[1], [3])

    def test_a_commit_that_does_not_fit_frees_nothing(self):
        store = Store(Layout(8, 6))
        store.put("/f", ["x", "y"])
        store.put("/g", ["z", "z"])
        store.commit()
        store.remove("/f")
        store.make("/a")
        raised(self, NoSpace, store.commit)
        self.check_raises(store, NoRoom, store.put, "/h", ["w"], needed=1, free=0)
        store.checkpoint()
        self.check_raises(store, NoRoom, store.put, "/h", ["w"], needed=1, free=0)
        self.assertEqual(store.commit(), 3)
        store.put("/h", ["w"])
        self.assertEqual(store.get("/h"), ("w",))

    def test_a_commit_without_the_map_keeps_the_last_one(self):
        store = settled(Layout(64, 5), ("/f", ["x"]), ("/e", []))
        store.put("/e", [])
        store.commit()
        store.remove("/f")
        store.put("/g", ["y", "z"])
        self.assertEqual(store.journal().value(1), (("e", "file", ()), ("g", "file", (3, 4))))

    def test_a_directory_is_there(self):
        store = settled(Layout(64, 8), ("/a", None), ("/a/b", None))
        for path in ("/", "/a", "/a/b"):
            self.check_raises(store, HasEntry, store.put, path, [1], path=path)
            self.check_raises(store, HasEntry, store.put, path, [], path=path)

    def test_too_few_homes(self):
        store = settled(Layout(64, 6), ("/f", ["a", "b"]))
        self.check_raises(store, NoRoom, store.put, "/g", [1, 2, 3], needed=3, free=2)
        # The old homes of a file do not count for its new values.
        self.check_raises(store, NoRoom, store.put, "/f", (1, 2, 3, 4), needed=4, free=2)
        store.put("/g", [1, 2])
        self.check_raises(store, NoRoom, store.put, "/f", [1], needed=1, free=0)
        store.put("/f", [])
        self.check_raises(store, NoRoom, store.put, "/f", [1], needed=1, free=0)

    def test_the_order_of_the_errors(self):
        store = settled(Layout(64, 4), ("/a", None), ("/b", None))
        self.check_raises(store, BadPath, store.put, "/A", None, path="/A")
        self.check_raises(store, BadValue, store.put, "/x/y", [None], why="values")
        self.check_raises(store, NoEntry, store.put, "/x/y", [1], path="/x")
        self.check_raises(store, HasEntry, store.put, "/a", [1], path="/a")
        self.check_raises(store, NoRoom, store.put, "/a/f", [1], needed=1, free=0)

    def test_a_list_that_is_changed_later(self):
        store = Store(Layout(64, 8))
        values = ["x", "y"]
        store.put("/f", values)
        values[0] = "z"
        values.append("w")
        self.assertEqual(store.get("/f"), ("x", "y"))


class RemoveTest(StoreTest):
    """6.5"""

    def test_a_file(self):
        store = settled(Layout(64, 8), ("/a", None), ("/a/f", ["x", "y"]), ("/a/g", ["z"]))
        self.check_logged(store, lambda: store.remove("/a/f"), [
            (0, (1, 1, 1, 0, 0, 2, 0, 0)), (2, (("g", "file", (5,)),)),
        ])
        self.assertEqual(store.tree(), [("/a", None), ("/a/g", ("z",))])

    def test_a_file_without_values(self):
        store = settled(Layout(64, 8), ("/f", []))
        self.check_logged(store, lambda: store.remove("/f"), [(1, ())])

    def test_an_empty_directory(self):
        store = settled(Layout(64, 8), ("/a", None), ("/a/b", None))
        self.check_logged(store, lambda: store.remove("/a/b"), [(0, (1, 1, 1, 0, 0, 0, 0, 0)), (2, ())], [3])
        self.assertEqual(store.tree(), [("/a", None)])
        store.commit()
        self.check_logged(store, lambda: store.remove("/a"), [(0, (1, 1, 0, 0, 0, 0, 0, 0)), (1, ())], [2])
        self.assertEqual(store.tree(), [])

    def test_a_directory_that_was_made_just_now(self):
        store = Store(Layout(64, 8))
        store.make("/a")
        store.remove("/a")
        self.assertEqual(store.journal().running(), ([(0, (1, 1, 0, 0, 0, 0, 0, 0)), (1, ())], [2]))

    def test_the_root(self):
        store = Store(Layout(64, 8))
        self.check_raises(store, BadPath, store.remove, "/", path="/")
        store.make("/a")
        self.check_raises(store, BadPath, store.remove, "/", path="/")

    def test_nothing_is_there(self):
        store = settled(Layout(64, 8), ("/a", None), ("/f", ["x"]))
        for path in ("/b", "/a/b", "/ab", "/ff"):
            self.check_raises(store, NoEntry, store.remove, path, path=path)
        self.check_raises(store, NoEntry, store.remove, "/x/y", path="/x")
        store.remove("/f")
        self.check_raises(store, NoEntry, store.remove, "/f", path="/f")

    def test_a_directory_that_is_not_empty(self):
        store = settled(Layout(64, 8), ("/a", None), ("/a/b", None), ("/a/b/f", []))
        self.check_raises(store, NotEmpty, store.remove, "/a", path="/a")
        self.check_raises(store, NotEmpty, store.remove, "/a/b", path="/a/b")
        store.remove("/a/b/f")
        store.remove("/a/b")
        store.remove("/a")
        self.assertEqual(store.tree(), [])


class MoveTest(StoreTest):
    """6.6"""

    def test_within_one_directory(self):
        root = (("m", "dir", 2), ("z", "file", (3,)))
        store = settled(Layout(64, 8), ("/m", None), ("/f", ["x"]))
        self.check_logged(store, lambda: store.move("/f", "/z"), [(1, root)])
        self.assertEqual((store.tree(), store.get("/z")), ([("/m", None), ("/z", ("x",))], ("x",)))

    def test_a_directory_within_one_directory(self):
        store = settled(Layout(64, 8), ("/b", None), ("/b/f", ["x"]))
        self.check_logged(store, lambda: store.move("/b", "/bb"), [(1, (("bb", "dir", 2),))])
        self.assertEqual(store.tree(), [("/bb", None), ("/bb/f", ("x",))])

    def test_to_another_directory(self):
        store = settled(Layout(64, 8), ("/a", None), ("/b", None), ("/a/f", ["x"]), ("/b/g", []))
        self.check_logged(store, lambda: store.move("/a/f", "/b/a"), [
            (2, ()), (3, (("a", "file", (4,)), ("g", "file", ()))),
        ])
        self.assertEqual(store.tree(), [("/a", None), ("/b", None), ("/b/a", ("x",)), ("/b/g", ())])

    def test_down_and_up(self):
        store = settled(Layout(64, 8), ("/a", None), ("/b", None), ("/b/c", None), ("/f", ["x"]))
        self.check_logged(store, lambda: store.move("/a", "/b/c/a"), [
            (1, (("b", "dir", 3), ("f", "file", (5,)))), (4, (("a", "dir", 2),)),
        ])
        store.commit()
        self.check_logged(store, lambda: store.move("/b/c", "/a"), [
            (1, (("a", "dir", 4), ("b", "dir", 3), ("f", "file", (5,)))), (3, ()),
        ])
        self.assertEqual(store.tree(), [("/a", None), ("/a/a", None), ("/b", None), ("/f", ("x",))])

    def test_the_goal_may_begin_with_the_letters_of_the_path(self):
        store = settled(Layout(64, 8), ("/a", None), ("/ab", None))
        store.move("/a", "/ab/a")
        self.assertEqual(store.tree(), [("/ab", None), ("/ab/a", None)])

    def test_the_root(self):
        store = settled(Layout(64, 8), ("/a", None))
        for goal in ("/b", "/", "/a", "/x/y", "b", None, []):
            self.check_raises(store, BadPath, store.move, "/", goal, path="/")

    def test_a_goal_below_the_path(self):
        store = settled(Layout(64, 8), ("/a", None), ("/f", []))
        for path, goal in (("/a", "/a/b"), ("/a", "/a/b/c"), ("/f", "/f/g"), ("/x", "/x/y"), ("/x/y", "/x/y/z")):
            self.check_raises(store, BadPath, store.move, path, goal, path=goal)

    def test_no_goal(self):
        store = settled(Layout(64, 8), ("/a", None))
        for goal in ("", "b", "/a/", "/A", "/abcdefghi"):
            self.check_raises(store, BadPath, store.move, "/a", goal, path=goal)

    def test_the_entry_and_the_parents(self):
        store = settled(Layout(64, 8), ("/a", None), ("/f", []))
        self.check_raises(store, NoEntry, store.move, "/b", "/c", path="/b")
        self.check_raises(store, NoEntry, store.move, "/x/y", "/c", path="/x")
        self.check_raises(store, NoEntry, store.move, "/f/y", "/c", path="/f")
        self.check_raises(store, NoEntry, store.move, "/a/y", "/c", path="/a/y")
        self.check_raises(store, NoEntry, store.move, "/a", "/x/y", path="/x")
        self.check_raises(store, NoEntry, store.move, "/a", "/f/y", path="/f")

    def test_something_is_at_the_goal(self):
        store = settled(Layout(64, 8), ("/a", None), ("/b", None), ("/f", ["x"]), ("/a/g", []))
        for path, goal in (
            ("/a", "/a"), ("/f", "/f"), ("/a", "/b"), ("/a", "/f"), ("/f", "/a"), ("/f", "/a/g"), ("/a/g", "/a"),
            ("/a", "/"), ("/f", "/"), ("/a/g", "/"), ("/a/g", "/a/g"),
        ):
            self.check_raises(store, HasEntry, store.move, path, goal, path=goal)

    def test_the_order_of_the_errors(self):
        store = settled(Layout(64, 8), ("/a", None), ("/b", None))
        self.check_raises(store, BadPath, store.move, "x", "y", path="x")
        self.check_raises(store, BadPath, store.move, "/", "y", path="/")
        self.check_raises(store, BadPath, store.move, "/x/y", "y", path="y")
        self.check_raises(store, BadPath, store.move, "/x/y", "/x/y/z", path="/x/y/z")
        self.check_raises(store, NoEntry, store.move, "/x/y", "/w/z", path="/x")
        self.check_raises(store, NoEntry, store.move, "/x", "/w/z", path="/x")
        self.check_raises(store, NoEntry, store.move, "/x", "/x", path="/x")
        self.check_raises(store, NoEntry, store.move, "/x", "/a", path="/x")
        self.check_raises(store, NoEntry, store.move, "/a", "/w/z", path="/w")


class CommitTest(StoreTest):
    """6.8"""

    def test_the_events_of_each_call(self):
        store = Store(Layout(32, 6))
        store.make("/a")
        store.put("/a/f", ["x"])
        many = len(store.disk().events())
        self.assertEqual(store.commit(), 2)
        copies = [(0, (1, 1, 1, 2, 0, 0)), (1, (("a", "dir", 2),)), (2, (("f", "file", (3,)),))]
        self.assertEqual(store.disk().events()[many:], commit_events(store, 4, copies, 2))
        self.assertEqual(transaction_at(store.layout(), store.disk(), 2, 4), (copies, [], 9))
        many = len(store.disk().events())
        self.assertEqual(store.checkpoint(), 1)
        self.assertEqual(store.disk().events()[many:], [
            *home_writes(store, copies), FLUSH, ("write", 0, ("tail", 3, 9)), FLUSH,
        ])

    def test_results_are_those_of_the_journal(self):
        store = Store(Layout(32, 6))
        self.assertEqual((store.commit(), store.checkpoint()), (None, 0))
        store.make("/a")
        store.commit()
        store.make("/b")
        self.assertEqual((store.commit(), store.checkpoint(), store.checkpoint(), store.checkpoint()), (3, 1, 1, 0))

    def test_document_example_of_trees(self):
        store = Store(Layout(16, 6))
        found = []
        store.put("/f", [1])
        found.append((store.commit(), store.tree()))
        store.remove("/f")
        found.append((store.commit(), store.tree()))
        self.assertEqual(found, [(2, [("/f", (1,))]), (3, [])])

    def test_a_needed_revoke_is_written(self):
        store = Store(Layout(32, 6))
        store.make("/a")
        store.commit()
        store.remove("/a")
        self.assertEqual(store.commit(), 3)
        copies = [(0, (1, 1, 0, 0, 0, 0)), (1, ())]
        self.assertEqual(transaction_at(store.layout(), store.disk(), 3, 9), (copies, [2], 14))

    def test_a_revoke_that_is_not_needed_is_not_written(self):
        store = settled(Layout(32, 6), ("/a", None))
        store.remove("/a")
        self.assertEqual(store.commit(), 3)
        copies = [(0, (1, 1, 0, 0, 0, 0)), (1, ())]
        self.assertEqual(transaction_at(store.layout(), store.disk(), 3, 9), (copies, [], 13))

    def test_no_space(self):
        store = Store(Layout(8, 6))
        store.make("/a")
        store.commit()
        store.make("/b")
        self.check_raises(store, NoSpace, store.commit, needed=5, free=3)
        self.assertEqual(store.checkpoint(), 1)
        self.assertEqual(store.commit(), 3)
        self.assertEqual(store.tree(), [("/a", None), ("/b", None)])

    def test_calls_that_raise_log_nothing(self):
        store = settled(Layout(32, 6), ("/a", None), ("/f", ["x"]))
        for call, args in (
            (store.make, ("/a",)), (store.put, ("/a", [1])), (store.remove, ("/x",)), (store.move, ("/a", "/f")),
            (store.put, ("/g", [1, 2, 3])), (store.get, ("/a",)), (store.names, ("/f",)),
        ):
            with self.assertRaises(ValueError):
                call(*args)
        self.assertEqual((store.journal().running(), store.commit()), (([], []), None))


class OwnersTest(StoreTest):
    """0.2: returned lists are the caller's own."""

    def test_the_caller_owns_the_lists(self):
        store = settled(Layout(64, 8), ("/a", None), ("/a/f", ["x", ("y",)]), ("/g", ["z"]))
        store.remove("/g")
        store.make("/b")
        before = store_state(store)
        journal = store.journal()
        for call in (
            store.tree, lambda: store.names("/"), lambda: store.names("/a"), lambda: store.get("/a/f"),
            store.disk().events, store.disk().pending, journal.running, journal.kept,
        ):
            spoil(call())
            self.assertEqual(store_state(store), before)
        self.assertEqual((store.names("/"), store.get("/a/f")), (["a", "b"], ("x", ("y",))))
        self.assertEqual(store.commit(), 3)


if __name__ == "__main__":
    unittest.main()
