"""Points 6.1 and 8.1 of the document: a store that is made without a rule."""

import unittest

from revokelog.errors import BadRule, NoRoom
from revokelog.journals import RULES
from revokelog.layouts import Layout
from revokelog.records import records_of, transaction_at
from revokelog.stores import Store
from support import FLUSH, NO_RULES, raised, slot_writes, store_state


def commit_events(store, slot, records):
    rule = store.journal().without
    written = slot_writes(store.layout(), slot, records)
    return [*written[:-1], *[FLUSH] * (rule != "commit"), written[-1], *[FLUSH] * (rule != "settle")]


def checkpoint_events(store, copies, number, slot):
    rule = store.journal().without
    homes = [("write", store.layout().home_block(home), value) for home, value in copies]
    header = ("write", 0, ("tail", number, slot))
    return [*homes, *[FLUSH] * (rule != "tail"), header, *[FLUSH] * (rule != "header")]


def events_of(store, call):
    """The events that a call adds to those of the store's disk."""
    many = len(store.disk().events())
    call()
    return store.disk().events()[many:]


class MadeWithoutTest(unittest.TestCase):
    """6.1"""

    def test_the_rule_is_left_out_by_the_journal(self):
        for rule in (None, *RULES):
            self.assertEqual(Store(Layout(16, 6), without=rule).journal().without, rule)

    def test_bad_rules(self):
        layout = Layout(16, 6)
        for rule in NO_RULES:
            with self.subTest(repr(rule)):
                self.assertIs(raised(self, BadRule, Store, layout, without=rule).rule, rule)

    def test_the_rule_is_passed_by_name_only(self):
        with self.assertRaises(TypeError):
            Store(Layout(16, 6), "drop")

    def test_the_first_events_without_each_rule(self):
        for rule in (None, *RULES):
            store = Store(Layout(16, 4), without=rule)
            copies = [(0, (1, 1, 0, 0)), (1, ())]
            with self.subTest(rule):
                self.assertEqual(store.disk().events(), [
                    ("write", 0, ("tail", 1, 0)), FLUSH,
                    *commit_events(store, 0, records_of(1, copies, [])), *checkpoint_events(store, copies, 2, 4),
                ])
                self.assertEqual((store.tree(), store.journal().kept()), ([], []))

    def test_the_methods_do_their_work_without_each_rule(self):
        for rule in RULES:
            store = Store(Layout(64, 12), without=rule)
            store.make("/a")
            store.put("/a/f", ["x", "y"])
            store.commit()
            store.move("/a/f", "/g")
            store.remove("/a")
            store.commit()
            with self.subTest(rule):
                self.assertEqual((store.tree(), store.names("/")), ([("/g", ("x", "y"))], ["g"]))


class EventsTest(unittest.TestCase):
    """The events of a store's calls, without each rule."""

    def test_a_directory_removed_and_its_home_used_again(self):
        for rule in (None, *RULES):
            store = Store(Layout(64, 4), without=rule)
            store.make("/a")
            first = [(0, (1, 1, 1, 0)), (1, (("a", "dir", 2),)), (2, ())]
            with self.subTest(rule):
                self.assertEqual(events_of(store, store.commit), commit_events(store, 4, records_of(2, first, [])))
                store.remove("/a")
                store.make("/b")
                second = [(0, (1, 1, 1, 0)), (1, (("b", "dir", 2),)), (2, ())]
                # Logging home 2 takes back its revoke.
                revokes = [2] if rule == "cancel" else []
                records = records_of(3, second, revokes)
                self.assertEqual(events_of(store, store.commit), commit_events(store, 9, records))
                # All three homes have a newer copy.
                written = first if rule == "forget" else []
                self.assertEqual(events_of(store, store.checkpoint), checkpoint_events(store, written, 3, 9))
                slot = 9 + len(records)
                self.assertEqual(events_of(store, store.checkpoint), checkpoint_events(store, second, 4, slot))

    def test_a_directory_removed(self):
        for rule in (None, *RULES):
            store = Store(Layout(64, 4), without=rule)
            store.make("/a")
            store.commit()
            store.make("/b")
            store.remove("/b")
            store.remove("/a")
            copies = [(0, (1, 1, 0, 0)), (1, ())]
            if rule == "drop":
                # Home 3 keeps its copy, although /b was removed before it was ever committed.
                copies.append((3, ()))
            revokes = [] if rule == "revoke" else [2]
            records = records_of(3, copies, revokes)
            with self.subTest(rule):
                self.assertEqual(events_of(store, store.commit), commit_events(store, 9, records))
                after = 9 + len(records)
                self.assertEqual(transaction_at(store.layout(), store.disk(), 3, 9), (copies, revokes, after))
                older = [0, 1, 2] if rule == "forget" else []
                self.assertEqual(store.journal().kept(), [(2, older), (3, [home for home, _ in copies])])

    def test_data_in_homes_that_are_free_only_now(self):
        for rule in (None, *RULES):
            store = Store(Layout(64, 6), without=rule)
            store.make("/a")
            store.commit()
            store.remove("/a")
            homes = (2, 3) if rule == "reuse" else (3, 4)
            blocks = [store.layout().home_block(home) for home in homes]
            with self.subTest(rule):
                put = events_of(store, lambda: store.put("/f", ["x", "y"]))
                self.assertEqual(put, [("write", blocks[0], "x"), ("write", blocks[1], "y")])
                self.assertEqual(store.journal().value(1), (("f", "file", homes),))
                self.assertEqual((store.get("/f"), store.tree()), (("x", "y"), [("/f", ("x", "y"))]))


class ReuseTest(unittest.TestCase):
    def test_document_example(self):
        homes = []
        for rule in ("reuse", None):
            store = Store(Layout(32, 6), without=rule)
            store.make("/a")
            store.commit()
            store.checkpoint()
            store.remove("/a")
            store.put("/f", ("x",))
            self.assertEqual(len(store.disk().events()), 27)
            homes.append(store.disk().events()[26])
        first = store.layout().home_block(0)
        self.assertEqual(homes, [("write", first + 2, "x"), ("write", first + 3, "x")])

    def test_all_homes_that_are_free_now_count(self):
        for rule, free in (("reuse", 4), (None, 2)):
            store = Store(Layout(64, 6), without=rule)
            store.put("/f", ["a", "b"])
            store.commit()
            store.remove("/f")
            before = store_state(store)
            error = raised(self, NoRoom, store.put, "/g", [1, 2, 3, 4, 5])
            self.assertEqual((error.needed, error.free), (5, free))
            self.assertEqual(store_state(store), before)

    def test_the_old_homes_of_the_file_itself_are_not_free_yet(self):
        store = Store(Layout(64, 6), without="reuse")
        store.put("/f", ["a", "b"])
        store.commit()
        store.put("/f", ["c", "d"])
        self.assertEqual(store.journal().value(1), (("f", "file", (4, 5)),))
        # Now they are, without a commit.
        store.put("/f", ["e", "g"])
        self.assertEqual(store.journal().value(1), (("f", "file", (2, 3)),))

    def test_directories_take_the_least_free_home_in_any_case(self):
        for rule in (None, "reuse"):
            store = Store(Layout(64, 4), without=rule)
            store.put("/f", ["a"])
            store.commit()
            store.remove("/f")
            store.make("/b")
            self.assertEqual(store.journal().value(1), (("b", "dir", 2),))


class DataOnDiskTest(unittest.TestCase):
    """Where a rule is left out, the data of a file may differ from what is logged for its home."""

    def test_a_copy_that_was_not_dropped(self):
        store = Store(Layout(64, 4), without="drop")
        store.make("/a")
        store.remove("/a")
        store.put("/f", ["x"])
        self.assertEqual(store.journal().value(2), ())
        self.assertEqual((store.get("/f"), store.tree()), (("x",), [("/f", ("x",))]))
        store.commit()
        store.checkpoint()
        self.assertEqual((store.get("/f"), store.tree()), (((),), [("/f", ((),))]))

    def test_an_old_copy_that_was_not_forgotten(self):
        store = Store(Layout(64, 4), without="forget")
        store.make("/a")
        store.commit()
        store.remove("/a")
        store.commit()
        store.put("/f", ["x"])
        self.assertEqual((store.get("/f"), store.tree()), (("x",), [("/f", ("x",))]))
        store.checkpoint()
        self.assertEqual((store.get("/f"), store.tree()), (((),), [("/f", ((),))]))


if __name__ == "__main__":
    unittest.main()
