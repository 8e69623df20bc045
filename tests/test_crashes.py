"""Stage 7 of the document: points 7.1 to 7.5."""

import unittest

from revokelog.crashes import all_crashes, crashed_store, last_committed, open_store
from revokelog.disks import Disk, crash_choices
from revokelog.errors import BadChoice, BadCount, BadValue, TooMany
from revokelog.journals import RULES, Journal
from revokelog.layouts import Layout, new_disk
from revokelog.records import records_of, transaction_at
from revokelog.recovery import recover, scan
from revokelog.runs import run
from revokelog.stores import Store
from support import (
    FLUSH, NO_HEADERS, NO_INTEGERS, UNWRITTEN_HEADERS, FalseDisk, PlainTree, every_crash, journal_state, place, raised,
    spoil, state, store_state,
)


def store_of(steps, slots=32, homes=6, without=None):
    store = Store(Layout(slots, homes), without=without)
    run(store, steps)
    return store


def all_kept(disk):
    """A new disk of which every write is durable."""
    return disk.crashed(list(range(len(disk.pending()))))


class OpenStoreTest(unittest.TestCase):
    """7.1"""

    def test_it_is_a_store_on_this_disk(self):
        layout = Layout(32, 6)
        disk = all_kept(store_of([("make", "/a"), ("put", "/a/f", ["x", 5]), ("commit",)]).disk())
        store = open_store(layout, disk)
        self.assertIs(type(store), Store)
        self.assertIs(store.disk(), disk)
        self.assertIs(store.layout(), layout)
        self.assertIs(type(store.journal()), Journal)
        self.assertIs(store.journal().medium, disk)
        self.assertIs(store.journal().plan, layout)
        self.assertIsNone(store.journal().without)
        self.assertEqual(store.tree(), [("/a", None), ("/a/f", ("x", 5))])
        self.assertEqual((store.names("/a"), store.get("/a/f")), (["f"], ("x", 5)))

    def test_it_recovers_and_does_nothing_else(self):
        made = store_of([("make", "/a"), ("commit",), ("make", "/a/b"), ("commit",), ("remove", "/a/b")])
        layout = made.layout()
        one, other = all_kept(made.disk()), all_kept(made.disk())
        journal = recover(layout, one)
        store = open_store(layout, other)
        self.assertEqual(state(other), state(one))
        self.assertEqual(journal_state(store.journal()), journal_state(journal))
        self.assertEqual(other.events()[-3:], [FLUSH, ("write", 0, ("tail", 4, 14)), FLUSH])

    def test_what_was_not_committed_is_gone(self):
        made = store_of([("put", "/f", ["x"]), ("commit",), ("make", "/a"), ("put", "/f", ["y"]), ("remove", "/f")])
        store = open_store(made.layout(), all_kept(made.disk()))
        self.assertEqual(store.tree(), [("/f", ("x",))])
        self.assertEqual((store.commit(), store.checkpoint()), (None, 0))

    def test_it_goes_on(self):
        made = store_of([("make", "/a"), ("commit",), ("remove", "/a"), ("commit",), ("make", "/b")])
        store = open_store(made.layout(), all_kept(made.disk()))
        self.assertEqual((store.tree(), store.journal().numbers()), ([], (4, 4)))
        store.make("/c")
        store.put("/c/f", ["x"])
        self.assertEqual((store.commit(), store.journal().kept()), (4, [(4, [0, 1, 2])]))
        self.assertEqual(store.checkpoint(), 1)
        again = open_store(made.layout(), all_kept(store.disk()))
        self.assertEqual((again.tree(), again.commit()), ([("/c", None), ("/c/f", ("x",))], None))

    def test_the_map_of_the_last_commit_is_the_recovered_one(self):
        steps = [("put", "/f", ["x"]), ("commit",), ("remove", "/f"), ("commit",), ("put", "/g", ["y", "z"])]
        made = store_of(steps)
        # At transaction 2 home 2 holds /f, at transaction 3 nothing is used.
        for many, first, second in ((20, (3, 4), (2,)), (26, (2, 3), (4,))):
            store = crashed_store(made, [], many=many)
            if store.tree():
                store.remove("/f")
            store.put("/h", ["v", "w"])
            self.assertEqual(store.journal().value(1), (("h", "file", first),))
            store.commit()
            store.put("/i", ["u"])
            self.assertEqual(store.journal().value(1), (("h", "file", first), ("i", "file", second)))

    def test_an_opened_store_keeps_all_rules(self):
        for rule in RULES:
            made = store_of([("make", "/a"), ("commit",)], without=rule)
            store = open_store(made.layout(), all_kept(made.disk()))
            with self.subTest(rule):
                self.assertIsNone(store.journal().without)
                store.make("/b")
                store.commit()
                store.remove("/b")
                many = len(store.disk().events())
                store.commit()
                copies = [(0, (1, 1, 1, 0, 0, 0)), (1, (("a", "dir", 2),))]
                records = records_of(4, copies, [3])
                events = [("write", 15 + at, record) for at, record in enumerate(records)]
                self.assertEqual(store.disk().events()[many:], [*events[:-1], FLUSH, events[-1], FLUSH])
                self.assertEqual(store.journal().kept(), [(3, []), (4, [0, 1])])
                self.assertEqual(crashed_store(store, []).tree(), [("/a", None)])

    def test_a_disk_without_transactions(self):
        layout = Layout(8, 4)
        disk = new_disk(layout)
        store = open_store(layout, disk)
        self.assertIs(store.disk(), disk)
        self.assertIs(store.layout(), layout)
        self.assertEqual(store.journal().numbers(), (1, 1))
        self.assertEqual((store.tree(), last_committed(layout, disk)), (None, 0))
        self.assertEqual(all_crashes(store), [(0, None)])
        self.assertIsNone(crashed_store(store, [], many=2).tree())
        # What its journal logs may make a store of it.
        store.journal().log(0, (1, 1, 0, 0))
        store.journal().log(1, ())
        self.assertEqual((store.tree(), store.commit(), store.names("/")), ([], 1, []))
        store.put("/f", ["x", "y"])
        self.assertEqual(store.tree(), [("/f", ("x", "y"))])

    def test_homes_that_hold_no_store(self):
        layout = Layout(32, 6)
        for home, value in ((0, 0), (0, (1, 1, 2, 0, 0, 0)), (1, 5), (1, (("a", "dir", 3),))):
            disk = all_kept(store_of([("make", "/a"), ("commit",)]).disk())
            place(layout, disk, 9, records_of(3, [(home, value)], []))
            store = open_store(layout, disk)
            self.assertIsNone(store.tree())
            self.assertEqual((store.journal().value(home), last_committed(layout, disk)), (value, 3))
            self.assertEqual(all_crashes(store), [(3, None)])

    def test_headers_that_are_none(self):
        layout = Layout(8, 4)
        for header in NO_HEADERS:
            disk = all_kept(Store(layout).disk())
            disk.write(0, header)
            before = state(disk)
            with self.subTest(repr(header)):
                for call in (open_store, last_committed):
                    self.assertEqual(raised(self, BadValue, call, layout, disk).why, "header")
                    self.assertEqual(state(disk), before)
        for header in UNWRITTEN_HEADERS:
            disk = FalseDisk(13, {0: header})
            with self.subTest(repr(header)):
                for call in (open_store, last_committed):
                    self.assertEqual(raised(self, BadValue, call, layout, disk).why, "header")
                    self.assertEqual(disk.events(), [])


class CrashedStoreTest(unittest.TestCase):
    """7.2"""

    def test_it_is_what_open_store_returns(self):
        made = store_of([("make", "/a"), ("put", "/f", ["x"]), ("commit",), ("checkpoint",), ("put", "/g", [1, 2])])
        before = store_state(made)
        for many in range(2, len(made.disk().events()) + 1):
            disk = made.disk().after(many)
            for kept in crash_choices(disk):
                expected = open_store(made.layout(), disk.crashed(kept))
                found = crashed_store(made, kept, many=many)
                self.assertIs(type(found), Store)
                self.assertIs(found.layout(), made.layout())
                self.assertEqual(store_state(found), store_state(expected))
        self.assertEqual(store_state(made), before)

    def test_as_it_is_now(self):
        made = store_of([("make", "/a"), ("commit",), ("put", "/f", ["x", "y"])])
        before = store_state(made)
        many = len(made.disk().events())
        for kept in ([], [0], [1], [0, 1]):
            states = [
                store_state(crashed_store(made, kept)), store_state(crashed_store(made, kept, many=None)),
                store_state(crashed_store(made, kept, many=many)),
                store_state(open_store(made.layout(), made.disk().crashed(kept))),
            ]
            self.assertEqual(states, [states[0]] * 4)
            first = made.layout().home_block(3)
            data = [states[0][1][1][1][first + at] for at in (0, 1)]
            self.assertEqual(data, ["x" if 0 in kept else 0, "y" if 1 in kept else 0])
        self.assertEqual(store_state(made), before)

    def test_the_new_store_has_a_disk_of_its_own(self):
        made = store_of([("make", "/a"), ("commit",)])
        before = store_state(made)
        store = crashed_store(made, [])
        self.assertIsNot(store.disk(), made.disk())
        store.remove("/a")
        store.put("/f", ["x"])
        store.commit()
        store.checkpoint()
        self.assertEqual(store_state(made), before)

    def test_of_an_opened_store(self):
        made = store_of([("make", "/a"), ("commit",)])
        store = crashed_store(made, [])
        events = store.disk().events()
        self.assertEqual(len(events), 6)
        store.make("/b")
        store.commit()
        for many in range(7):
            self.assertEqual(crashed_store(store, [], many=many).tree(), [("/a", None)])
        self.assertEqual(crashed_store(store, []).tree(), [("/a", None), ("/b", None)])

    def test_bad_counts(self):
        made = store_of([("make", "/a"), ("commit",), ("put", "/f", ["x"])])
        before = store_state(made)
        many = len(made.disk().events())
        for wrong in (-1, many + 1, 10 ** 30, *[thing for thing in NO_INTEGERS if thing is not None]):
            with self.subTest(repr(wrong)):
                self.assertIs(raised(self, BadCount, crashed_store, made, [], many=wrong).count, wrong)
                # It comes ahead of a bad choice.
                self.assertIs(raised(self, BadCount, crashed_store, made, None, many=wrong).count, wrong)
                self.assertIs(raised(self, BadCount, all_crashes, made, many=wrong).count, wrong)
        self.assertEqual(store_state(made), before)

    def test_bad_choices(self):
        made = store_of([("make", "/a"), ("commit",), ("put", "/f", ["x", "y"])])
        before = store_state(made)
        many = len(made.disk().events())
        for wrong, at in (
            (None, None), ((), None), ((0,), None), ("", None), (0, None), ({}, None), ({0}, None), (True, None),
            ([2], 0), ([-1], 0), ([True], 0), ([False], 0), ([0, True], 1), ([None], 0), (["0"], 0), ([[0]], 0),
            ([(0,)], 0), ([0, 0], 1), ([1, 0], 1), ([0, 1, 2], 2), ([0, 1, 1], 2), ([1, {}], 1),
        ):
            with self.subTest(repr(wrong)):
                self.assertIs(raised(self, BadChoice, crashed_store, made, wrong).at, at)
                self.assertIs(raised(self, BadChoice, crashed_store, made, wrong, many=many).at, at)
        self.assertEqual(raised(self, BadChoice, crashed_store, made, [0], many=many - 2).at, 0)
        # Bad choices come ahead of a header that is not durable.
        for count, wrong, at in ((0, [0], 0), (1, [1], 0), (1, [0, 0], 1), (1, None, None), (0, (), None)):
            self.assertEqual(raised(self, BadChoice, crashed_store, made, wrong, many=count).at, at)
        self.assertEqual(store_state(made), before)

    def test_the_first_events(self):
        made = Store(Layout(8, 4))
        before = store_state(made)
        for many in (0, 1):
            self.assertEqual(raised(self, BadValue, crashed_store, made, [], many=many).why, "header")
        for kept, many in (([0], 1), ([], 2), ([0], 3), ([], 6), ([], 7)):
            self.assertIsNone(crashed_store(made, kept, many=many).tree())
        for kept, many in (([0], 7), ([], 8), ([0], 9), ([], 13)):
            self.assertEqual(crashed_store(made, kept, many=many).tree(), [])
        self.assertEqual(store_state(made), before)

    def test_many_is_passed_by_name_only(self):
        made = Store(Layout(8, 4))
        with self.assertRaises(TypeError):
            crashed_store(made, [], 8)
        with self.assertRaises(TypeError):
            all_crashes(made, 8)


class LastCommittedTest(unittest.TestCase):
    """7.3"""

    def test_the_first_events(self):
        store = Store(Layout(8, 4))
        found = []
        for many in range(2, 14):
            disk = store.disk().after(many)
            found.append((last_committed(store.layout(), disk), last_committed(store.layout(), disk.crashed([]))))
        # What is pending is read, and lost at the crash.
        self.assertEqual(found, [(0, 0)] * 5 + [(1, 0)] + [(1, 1)] * 6)

    def test_in_the_log_or_on_the_disk_alone(self):
        store = store_of([("make", "/a"), ("commit",), ("make", "/b"), ("commit",), ("make", "/c")])
        layout, disk = store.layout(), store.disk()
        for transactions in (2, 1, 0):
            before = state(disk)
            self.assertEqual(last_committed(layout, disk), 3)
            self.assertEqual((len(scan(layout, disk)), state(disk)), (transactions, before))
            store.checkpoint()
        recover(layout, disk)
        self.assertEqual(last_committed(layout, disk), 3)

    def test_any_header(self):
        layout = Layout(8, 4)
        disk = Disk(13)
        for number, slot in ((1, 0), (2, 7), (10 ** 20, 3)):
            disk.write(0, ("tail", number, slot))
            self.assertEqual(last_committed(layout, disk), number - 1)
            place(layout, disk, slot, [("commit", number), ("commit", number + 1), ("commit", number + 3)])
            self.assertEqual(last_committed(layout, disk), number + 1)


class AllCrashesTest(unittest.TestCase):
    """7.4"""

    def expected(self, store, many):
        disk = store.disk().after(len(store.disk().events()) if many is None else many)
        rows = []
        for kept in crash_choices(disk):
            number = last_committed(store.layout(), disk.crashed(kept))
            row = (number, open_store(store.layout(), disk.crashed(kept)).tree())
            rows += [row] if row not in rows else []
        return rows

    def test_each_event_of_a_short_life(self):
        steps = [("make", "/a"), ("put", "/f", ["x", "y"]), ("commit",), ("checkpoint",), ("remove", "/a"), ("commit",)]
        for rule in (None, *RULES):
            store = store_of(steps, without=rule)
            before = store_state(store)
            for many in (None, *range(2, len(store.disk().events()) + 1)):
                with self.subTest(rule, many=many):
                    self.assertEqual(all_crashes(store, many=many), self.expected(store, many))
            self.assertEqual(store_state(store), before)

    def test_the_order_in_which_they_come_first(self):
        store = store_of([("make", "/a"), ("commit",)], without="commit")
        self.assertEqual(all_crashes(store, many=17), [(1, []), (2, [("/a", None)])])
        store = store_of([("make", "/a"), ("commit",), ("checkpoint",)], without="tail")
        many = len(store.disk().events()) - 1
        self.assertEqual(all_crashes(store, many=many), [(2, [("/a", None)]), (2, None), (2, [])])
        self.assertEqual(all_crashes(store), [(2, [("/a", None)])])

    def test_the_commit_record_alone(self):
        store = store_of([("put", "/f", ["x"]), ("commit",)])
        many = len(store.disk().events())
        self.assertEqual(all_crashes(store, many=many - 2), [(1, [])])
        self.assertEqual(all_crashes(store, many=many - 1), [(1, []), (2, [("/f", ("x",))])])
        self.assertEqual(all_crashes(store, many=many), [(2, [("/f", ("x",))])])
        self.assertEqual(all_crashes(store), [(2, [("/f", ("x",))])])

    def test_ten_and_eleven_pending_writes(self):
        store = store_of([("put", "/f", [1, 2, 3, 4, 5, 6]), ("put", "/g", [1, 2, 3, 4])], homes=20)
        self.assertEqual(len(store.disk().pending()), 10)
        self.assertEqual(all_crashes(store), [(1, [])])
        store.put("/h", [5])
        before = store_state(store)
        self.assertEqual(raised(self, TooMany, all_crashes, store).limit, 10)
        many = len(store.disk().events())
        self.assertEqual(raised(self, TooMany, all_crashes, store, many=many).limit, 10)
        self.assertEqual(all_crashes(store, many=many - 1), [(1, [])])
        self.assertEqual(store_state(store), before)

    def test_the_first_events(self):
        store = Store(Layout(8, 4))
        before = store_state(store)
        for many in (0, 1):
            self.assertEqual(raised(self, BadValue, all_crashes, store, many=many).why, "header")
        found = [all_crashes(store, many=many) for many in range(2, 14)]
        self.assertEqual(found, [[(0, None)]] * 5 + [[(0, None), (1, [])]] + [[(1, [])]] * 6)
        self.assertEqual(store_state(store), before)

    def test_the_error_that_comes_first(self):
        # No store writes eleven blocks ahead of its first flush, so its disk is told to.
        store = Store(Layout(8, 4))
        disk = Disk(13)
        disk.write(0, 0)
        for _ in range(11):
            disk.write(1, 1)
        journal = Journal(Layout(8, 4), new_disk(Layout(8, 4)))
        journal.medium = disk
        store._journal = journal
        self.assertEqual(raised(self, TooMany, all_crashes, store).limit, 10)
        self.assertEqual(raised(self, BadCount, all_crashes, store, many=13).count, 13)
        self.assertEqual(raised(self, BadValue, all_crashes, store, many=10).why, "header")

    def test_the_caller_owns_the_lists(self):
        store = store_of([("make", "/a"), ("put", "/f", ["x"]), ("commit",)])
        many = len(store.disk().events()) - 1
        before = store_state(store)
        expected = self.expected(store, many)
        spoil(all_crashes(store, many=many))
        self.assertEqual((all_crashes(store, many=many), store_state(store)), (expected, before))


# Lives of at most ten pending writes at a time: slots, homes and steps.
LIVES = {
    "nothing": (8, 4, []),
    "directories made, removed and made again": (32, 6, [
        ("make", "/a"), ("make", "/a/b"), ("commit",), ("remove", "/a/b"), ("commit",), ("make", "/c"), ("commit",),
        ("checkpoint",), ("remove", "/a"), ("make", "/b"), ("commit",), ("checkpoint",), ("checkpoint",),
    ]),
    "data in the home of a directory": (32, 6, [
        ("make", "/a"), ("commit",), ("remove", "/a"), ("commit",), ("put", "/f", ["x", "y"]), ("commit",),
        ("checkpoint",), ("put", "/f", [(1, ())]), ("commit",), ("make", "/b"), ("make", "/c"), ("commit",),
    ]),
    "a directory in the home of data": (32, 4, [
        ("put", "/f", ["x"]), ("commit",), ("remove", "/f"), ("make", "/a"), ("commit",), ("remove", "/a"),
        ("put", "/g", ["y"]), ("commit",), ("put", "/h", ["z"]), ("commit",),
    ]),
    "all in one transaction": (32, 6, [
        ("make", "/a"), ("remove", "/a"), ("put", "/f", ["x"]), ("put", "/f", ["y"]), ("put", "/f", ["z"]),
        ("make", "/b"), ("remove", "/b"), ("put", "/g", ["v"]), ("commit",), ("move", "/f", "/h"), ("commit",),
    ]),
    "round a small ring": (8, 4, [
        ("make", "/a"), ("commit",), ("put", "/f", []), ("commit",), ("put", "/g", []), ("commit",), ("checkpoint",),
        ("commit",), ("checkpoint",), ("remove", "/g"), ("commit",), ("remove", "/a"), ("commit",), ("checkpoint",),
        ("commit",), ("checkpoint",), ("put", "/f", ["x"]), ("commit",), ("checkpoint",), ("checkpoint",),
        ("remove", "/f"), ("commit",), ("checkpoint",),
    ]),
    "a ring that one transaction fills": (8, 7, [
        ("make", "/a"), ("make", "/a/b"), ("make", "/a/b/c"), ("make", "/a/b/c/d"), ("commit",), ("checkpoint",),
        ("remove", "/a/b/c/d"), ("commit",), ("checkpoint",),
    ]),
    "moves": (16, 7, [
        ("make", "/a"), ("make", "/b"), ("put", "/a/f", ["x"]), ("commit",), ("checkpoint",), ("move", "/a", "/b/c"),
        ("commit",), ("move", "/b/c/f", "/f"), ("commit",), ("checkpoint",), ("remove", "/b/c"), ("commit",),
    ]),
    "errors amid the steps": (8, 4, [
        ("make", "/a"), ("make", "/a"), ("put", "/a", []), ("commit",), ("make", "/b"), ("commit",), ("remove", "/b"),
        ("remove", "/x"), ("put", "/f", [1, 2]), ("put", "/f", ["x"]), ("checkpoint",), ("commit",), ("commit",),
        ("move", "/f", "/f/g"), ("move", "/f", "/a/g"), ("checkpoint",), ("commit",), ("checkpoint",),
    ]),
}


class PromiseTest(unittest.TestCase):
    """7.5"""

    def live(self, store, steps):
        """Rows (number, events when the commit has returned, tree), the first one for the new store."""
        plain = PlainTree()
        rows = [(1, 8, [])]
        for step in steps:
            result, count = run(store, [step])[0]
            if not isinstance(result, str):
                plain.do(step)
            if step[0] == "commit" and isinstance(result, int):
                rows.append((result, count, plain.tree()))
            self.assertEqual(store.tree(), plain.tree())
        return rows

    def expected(self, rows, many, kept):
        """The row of the last commit that has returned, or whose record is kept although it has not."""
        there = [row for row in rows if row[1] <= many or (row[1] == many + 1 and kept == [0])]
        return there[-1]

    def check_deeper(self, layout, disk, number, tree, deep):
        """Opens a store on a disk, and on what each crash on the way leaves, so many crashes deep."""
        self.assertEqual(last_committed(layout, disk), number)
        store = open_store(layout, disk)
        self.assertEqual((store.tree(), last_committed(layout, disk)), (tree, number))
        if deep > 0:
            for _, _, crashed in every_crash(disk):
                self.check_deeper(layout, crashed, number, tree, deep - 1)

    def check_life(self, name, deep):
        slots, homes, steps = LIVES[name]
        store = Store(Layout(slots, homes))
        rows = self.live(store, steps)
        for many, kept, crashed in every_crash(store.disk(), 7):
            if many > 7 or kept == [0]:
                number, _, tree = self.expected(rows, many, kept)
                self.check_deeper(store.layout(), crashed, number, tree, deep)
                self.assertEqual(crashed_store(store, kept, many=many).tree(), tree)

    def test_each_crash_of_each_life(self):
        for name in LIVES:
            with self.subTest(name):
                self.check_life(name, 0)

    def test_each_crash_of_a_recovery(self):
        for name in ("directories made, removed and made again", "a directory in the home of data", "moves"):
            with self.subTest(name):
                self.check_life(name, 1)

    def test_each_crash_of_a_recovery_of_a_recovery(self):
        self.check_life("nothing", 2)

    def test_the_lives_do_what_they_are_for(self):
        results = {}
        for name, (slots, homes, steps) in LIVES.items():
            results[name] = [row[0] for row in run(Store(Layout(slots, homes)), steps)]
        words = [result for result in results.pop("errors amid the steps") if isinstance(result, str)]
        self.assertEqual(words, [
            "HasEntry", "HasEntry", "NoSpace", "NoEntry", "NoRoom", "BadPath",
        ])
        small = [result for result in results.pop("round a small ring") if isinstance(result, str)]
        self.assertEqual(set(small), {"NoSpace"})
        for name, found in results.items():
            self.assertEqual([result for result in found if isinstance(result, str)], [], name)

    def test_the_stale_records_of_a_lost_transaction(self):
        # The next transaction has the number and the slots of one whose commit record was lost.
        steps = [("make", "/a"), ("make", "/b"), ("put", "/f", ["x"]), ("commit",)]
        store = store_of(steps, 16, 6)
        lost = crashed_store(store, [], many=len(store.disk().events()) - 1)
        self.assertEqual((lost.tree(), transaction_at(lost.layout(), lost.disk(), 2, 4)), ([], None))
        self.assertEqual(lost.disk().read(5), ("descriptor", 2, (0, 1, 2, 3)))
        lost.put("/g", ["y"])
        self.assertEqual(lost.commit(), 2)
        many = len(lost.disk().events())
        for back in range(8):
            for kept in crash_choices(lost.disk().after(many - back)):
                number = 2 if back == 0 or (back == 1 and kept == [0]) else 1
                tree = [("/g", ("y",))] if number == 2 else []
                opened = crashed_store(lost, kept, many=many - back)
                self.assertEqual((last_committed(lost.layout(), opened.disk()), opened.tree()), (number, tree))


if __name__ == "__main__":
    unittest.main()
