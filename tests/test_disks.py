"""Stage 1 of the document: points 1.1 to 1.6."""

import unittest
from itertools import combinations

from revokelog.disks import Disk, crash_choices
from revokelog.errors import BadBlock, BadChoice, BadCount, BadValue, TooMany
from support import NO_INTEGERS, NO_VALUES, nested, raised, state


def busy_disk():
    """Four blocks, two flushes, three pending writes."""
    disk = Disk(4)
    disk.write(0, "a")
    disk.write(3, (1, ("b",)))
    disk.flush()
    disk.write(0, 5)
    disk.flush()
    disk.write(1, "c")
    disk.write(0, "d")
    disk.write(1, "e")
    return disk


def disk_with_pending(many):
    disk = Disk(many + 1)
    for block in range(many):
        disk.write(block, "w")
    return disk


def subsets(many):
    found = []
    for size in range(many + 1):
        found.extend(list(choice) for choice in combinations(range(many), size))
    return sorted(found)


class NewDiskTest(unittest.TestCase):
    """1.1"""

    def test_the_least_and_the_greatest_disk(self):
        for blocks in (1, 2, 127, 128):
            disk = Disk(blocks)
            self.assertEqual(disk.blocks(), blocks)
            self.assertEqual(disk.durable(), [0] * blocks)
            self.assertEqual([disk.read(block) for block in range(blocks)], [0] * blocks)
            self.assertEqual((disk.pending(), disk.events()), ([], []))

    def test_numbers_out_of_range(self):
        for blocks in (0, -1, 129, 10 ** 30):
            self.assertEqual(raised(self, BadCount, Disk, blocks).count, blocks)

    def test_no_integers(self):
        for blocks in NO_INTEGERS:
            with self.subTest(repr(blocks)):
                self.assertIs(raised(self, BadCount, Disk, blocks).count, blocks)


class ReadAndWriteTest(unittest.TestCase):
    """1.2"""

    def test_the_last_write_is_read(self):
        disk = Disk(3)
        self.assertIsNone(disk.write(1, "x"))
        self.assertIsNone(disk.flush())
        disk.write(1, "y")
        self.assertEqual([disk.read(1), disk.durable(), disk.pending()], ["y", [0, "x", 0], [(1, "y")]])

    def test_a_flush_makes_all_earlier_writes_durable(self):
        disk = busy_disk()
        disk.flush()
        self.assertEqual(disk.durable(), ["d", "e", 0, (1, ("b",))])
        self.assertEqual([disk.read(block) for block in range(4)], disk.durable())
        self.assertEqual(disk.pending(), [])

    def test_every_kind_of_value(self):
        disk = Disk(1)
        for value in (-1, 10 ** 30, "", "text", (), (1, "a", ((), (2,))), nested(8)):
            disk.write(0, value)
            self.assertIs(disk.read(0), value)

    def test_first_and_last_block(self):
        disk = Disk(128)
        disk.write(0, "low")
        disk.write(127, "high")
        self.assertEqual([disk.read(0), disk.read(127)], ["low", "high"])

    def test_bad_blocks(self):
        disk = busy_disk()
        before = state(disk)
        for block in (4, 5, -1, -4, 10 ** 30, *NO_INTEGERS):
            with self.subTest(repr(block)):
                self.assertIs(raised(self, BadBlock, disk.read, block).block, block)
                self.assertIs(raised(self, BadBlock, disk.write, block, 1).block, block)
        self.assertEqual(state(disk), before)

    def test_bad_values(self):
        disk = busy_disk()
        before = state(disk)
        for value in (*NO_VALUES, nested(9), (1, nested(8)), nested(50)):
            with self.subTest(repr(value)):
                raised(self, BadValue, disk.write, 0, value)
        self.assertEqual(state(disk), before)

    def test_a_bad_block_comes_before_a_bad_value(self):
        disk = Disk(2)
        for block in (2, True, None, []):
            self.assertIs(raised(self, BadBlock, disk.write, block, [None]).block, block)
        self.assertEqual(state(disk), state(Disk(2)))


class ListsTest(unittest.TestCase):
    """1.3"""

    def test_pending_durable_and_events(self):
        disk = busy_disk()
        self.assertEqual(disk.pending(), [(1, "c"), (0, "d"), (1, "e")])
        self.assertEqual(disk.durable(), [5, 0, 0, (1, ("b",))])
        self.assertEqual(disk.events(), [
            ("write", 0, "a"), ("write", 3, (1, ("b",))), ("flush",), ("write", 0, 5), ("flush",),
            ("write", 1, "c"), ("write", 0, "d"), ("write", 1, "e"),
        ])

    def test_a_flush_is_an_event_even_if_nothing_is_pending(self):
        disk = Disk(1)
        disk.flush()
        disk.flush()
        self.assertEqual(disk.events(), [("flush",), ("flush",)])

    def test_equal_writes_are_all_kept(self):
        disk = Disk(1)
        disk.write(0, 0)
        disk.write(0, 0)
        self.assertEqual(disk.pending(), [(0, 0), (0, 0)])
        self.assertEqual(disk.events(), [("write", 0, 0), ("write", 0, 0)])

    def test_the_caller_owns_the_lists(self):
        disk = busy_disk()
        before = state(disk)
        for made in (disk.pending(), disk.durable(), disk.events()):
            made.append("more")
            made[0] = "other"
            made.reverse()
        self.assertEqual(state(disk), before)

    def test_an_earlier_list_does_not_follow_the_disk(self):
        disk = busy_disk()
        pending, durable, events = disk.pending(), disk.durable(), disk.events()
        before = (list(pending), list(durable), list(events))
        disk.write(2, "later")
        disk.flush()
        self.assertEqual((pending, durable, events), before)


class AfterTest(unittest.TestCase):
    """1.4"""

    def check_every_number(self, start, disk):
        """The disk began as `start` and has done its events since."""
        model = start.crashed([])
        for many, event in enumerate([*disk.events(), None]):
            self.assertEqual(state(disk.after(many)), state(model))
            if event == ("flush",):
                model.flush()
            elif event is not None:
                model.write(event[1], event[2])
        self.assertEqual(state(model), state(disk))

    def test_document_example(self):
        disk = Disk(2)
        disk.write(0, "a")
        disk.flush()
        disk.write(0, "b")
        self.assertEqual(disk.after(2).read(0), "a")
        self.assertEqual(disk.after(2).events(), [("write", 0, "a"), ("flush",)])

    def test_none_some_and_all_of_the_events(self):
        disk = busy_disk()
        self.assertEqual(state(disk.after(0)), state(Disk(4)))
        self.assertEqual(disk.after(2).pending(), [(0, "a"), (3, (1, ("b",)))])
        self.assertEqual(disk.after(3).durable(), ["a", 0, 0, (1, ("b",))])
        self.assertEqual(state(disk.after(8)), state(disk))
        self.check_every_number(Disk(4), disk)

    def test_values_at_the_beginning_are_kept(self):
        start = busy_disk().crashed([0])
        disk = start.crashed([])
        disk.write(2, "f")
        disk.flush()
        disk.write(1, "g")
        self.assertEqual(disk.after(0).durable(), [5, "c", 0, (1, ("b",))])
        self.check_every_number(start, disk)
        again = disk.after(2)
        self.assertEqual(state(again.after(1)), state(disk.after(1)))

    def test_the_disks_are_independent(self):
        disk = busy_disk()
        before = state(disk)
        copy = disk.after(8)
        copy.write(2, "new")
        copy.flush()
        self.assertEqual(state(disk), before)
        disk.write(3, "own")
        disk.flush()
        self.assertEqual(copy.durable(), ["d", "e", "new", (1, ("b",))])

    def test_bad_counts(self):
        disk = busy_disk()
        before = state(disk)
        for many in (-1, 9, 10 ** 30, *NO_INTEGERS):
            with self.subTest(repr(many)):
                self.assertIs(raised(self, BadCount, disk.after, many).count, many)
        self.assertEqual(state(disk), before)


class CrashedTest(unittest.TestCase):
    """1.5"""

    def test_document_example(self):
        disk = Disk(2)
        disk.write(0, 1)
        disk.write(0, 2)
        disk.write(1, 3)
        self.assertEqual(disk.crashed([0, 2]).durable(), [1, 3])
        self.assertEqual(disk.crashed([1]).durable(), [2, 0])

    def test_kept_writes_are_done_in_order(self):
        disk = busy_disk()
        rest = (1, ("b",))
        self.assertEqual(disk.crashed([]).durable(), [5, 0, 0, rest])
        self.assertEqual(disk.crashed([0, 2]).durable(), [5, "e", 0, rest])
        self.assertEqual(disk.crashed([0, 1]).durable(), ["d", "c", 0, rest])
        self.assertEqual(disk.crashed([0, 1, 2]).durable(), ["d", "e", 0, rest])

    def test_the_new_disk_has_a_new_beginning(self):
        crashed = busy_disk().crashed([1])
        self.assertEqual(state(crashed), (4, ["d", 0, 0, (1, ("b",))], crashed.durable(), [], []))
        self.assertEqual(state(crashed.crashed([])), state(crashed))

    def test_neither_the_disk_nor_the_list_is_changed(self):
        disk = busy_disk()
        before = state(disk)
        kept = [0, 2]
        crashed = disk.crashed(kept)
        crashed.write(0, "new")
        crashed.flush()
        self.assertEqual((state(disk), kept), (before, [0, 2]))
        disk.flush()
        self.assertEqual(crashed.durable(), ["new", "e", 0, (1, ("b",))])

    def test_no_list(self):
        disk = busy_disk()
        before = state(disk)
        for kept in (None, 0, True, "", "0", (), (0,), {}, {0: 0}, {0}, range(1), object()):
            with self.subTest(repr(kept)):
                self.assertIsNone(raised(self, BadChoice, disk.crashed, kept).at)
        self.assertEqual(state(disk), before)

    def test_bad_items(self):
        disk = busy_disk()
        before = state(disk)
        for kept, at in (
            ([3], 0), ([-1], 0), ([1, 0], 1), ([0, 0], 1), ([0, 1, 2, 3], 3), ([0, 2, 1], 2), ([0, 1, -1], 2),
            ([5, "a"], 0), ([0, "a", 5], 1), ([2, 2, None], 1), ([1, 2, [2]], 2), ([0, (1,)], 1), ([[0]], 0),
        ):
            with self.subTest(repr(kept)):
                self.assertEqual(raised(self, BadChoice, disk.crashed, kept).at, at)
        for item in NO_INTEGERS:
            with self.subTest(repr(item)):
                self.assertEqual(raised(self, BadChoice, disk.crashed, [0, item]).at, 1)
        self.assertEqual(state(disk), before)

    def test_without_pending_writes_only_the_empty_list_is_a_choice(self):
        disk = Disk(1)
        self.assertEqual(state(disk.crashed([])), state(disk))
        self.assertEqual(raised(self, BadChoice, disk.crashed, [0]).at, 0)


class CrashChoicesTest(unittest.TestCase):
    """1.6"""

    def test_document_example(self):
        self.assertEqual(crash_choices(disk_with_pending(2)), [[], [0], [0, 1], [1]])

    def test_all_choices_in_ascending_order(self):
        for many in (0, 1, 3, 5, 10):
            self.assertEqual(crash_choices(disk_with_pending(many)), subsets(many))

    def test_no_pending_writes(self):
        disk = disk_with_pending(11)
        disk.flush()
        self.assertEqual(crash_choices(disk), [[]])

    def test_crashed_accepts_each_choice(self):
        disk = disk_with_pending(10)
        found = {tuple(disk.crashed(kept).durable()) for kept in crash_choices(disk)}
        self.assertEqual(len(found), 1024)

    def test_more_than_ten_pending_writes(self):
        for many in (11, 12, 40):
            disk = disk_with_pending(many)
            before = state(disk)
            self.assertEqual(raised(self, TooMany, crash_choices, disk).limit, 10)
            self.assertEqual(state(disk), before)

    def test_the_caller_owns_the_lists(self):
        disk = disk_with_pending(4)
        before = state(disk)
        choices = crash_choices(disk)
        for choice in choices:
            choice.append("more")
        self.assertEqual(choices, [[*choice, "more"] for choice in subsets(4)])
        choices.clear()
        self.assertEqual(crash_choices(disk), subsets(4))
        self.assertEqual(state(disk), before)


if __name__ == "__main__":
    unittest.main()
