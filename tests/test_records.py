"""Stage 2 of the document, as far as it speaks of records: points 2.3 to 2.5."""

import unittest

from revokelog.errors import BadBlock, BadCount, BadValue
from revokelog.layouts import Layout, new_disk
from revokelog.records import records_of, slots_needed, transaction_at
from support import NO_INTEGERS, NO_VALUES, nested, place, raised, spoil, state

NO_LISTS = (None, 0, 1, True, "", "ab", b"a", (), ((2, "a"),), (2,), {}, {2: "a"}, {2}, range(2), object())
NO_PAIRS = (None, 2, True, "ab", b"ab", [2, "a"], (), (2,), (2, "a", "b"), {2: "a", 3: "b"}, {2, 3}, range(2))
NO_HOMES = (-1, 32, 10 ** 30, *NO_INTEGERS)


def copies_of(many):
    return [(home, f"value {home}") for home in range(many)]


class RecordsOfTest(unittest.TestCase):
    """2.3"""

    def test_document_example(self):
        self.assertEqual(records_of(3, [(2, "a")], [0, 5]), [
            ("revoke", 3, (0, 5)), ("descriptor", 3, (2,)), ("copy", 3, "a"), ("commit", 3),
        ])

    def test_no_copies_and_no_revokes(self):
        self.assertEqual(records_of(1, [], []), [("commit", 1)])

    def test_only_copies(self):
        self.assertEqual(records_of(10 ** 30, [(0, 5), (31, (1, "b"))], []), [
            ("descriptor", 10 ** 30, (0, 31)), ("copy", 10 ** 30, 5), ("copy", 10 ** 30, (1, "b")),
            ("commit", 10 ** 30),
        ])

    def test_only_revokes(self):
        self.assertEqual(records_of(2, [], [0, 31]), [("revoke", 2, (0, 31)), ("commit", 2)])

    def test_eight_and_nine_revokes(self):
        self.assertEqual(records_of(1, [], list(range(8))), [("revoke", 1, tuple(range(8))), ("commit", 1)])
        self.assertEqual(records_of(1, [], list(range(9))), [
            ("revoke", 1, tuple(range(8))), ("revoke", 1, (8,)), ("commit", 1),
        ])

    def test_eight_copies(self):
        records = records_of(1, copies_of(8), [])
        copies = [("copy", 1, value) for _, value in copies_of(8)]
        self.assertEqual(records, [("descriptor", 1, tuple(range(8))), *copies, ("commit", 1)])

    def test_nine_copies(self):
        records = records_of(1, copies_of(9), [])
        copies = [("copy", 1, value) for _, value in copies_of(8)]
        self.assertEqual(records, [
            ("descriptor", 1, tuple(range(8))), *copies, ("descriptor", 1, (8,)), ("copy", 1, "value 8"), ("commit", 1),
        ])

    def test_every_home_is_copied_and_revoked(self):
        records = records_of(7, copies_of(32), list(range(32)))
        self.assertEqual(records[:4], [("revoke", 7, tuple(range(at, at + 8))) for at in (0, 8, 16, 24)])
        self.assertEqual(records[-1], ("commit", 7))
        for group in range(4):
            part = records[4 + 9 * group:13 + 9 * group]
            homes = tuple(range(8 * group, 8 * group + 8))
            self.assertEqual(part, [("descriptor", 7, homes), *[("copy", 7, f"value {home}") for home in homes]])
        self.assertEqual(len(records), 41)

    def test_groups_count_the_homes_and_not_their_numbers(self):
        self.assertEqual(records_of(1, [], [3, 4, 5, 6, 7, 8, 9, 20, 31]), [
            ("revoke", 1, (3, 4, 5, 6, 7, 8, 9, 20)), ("revoke", 1, (31,)), ("commit", 1),
        ])

    def test_values_seven_deep(self):
        for value in (nested(7), (nested(6), 1, nested(6)), (), "", -5, 10 ** 30):
            self.assertEqual(records_of(1, [(0, value)], [])[1], ("copy", 1, value))
            self.assertEqual(slots_needed([(0, value)], []), 3)

    def test_the_arguments_are_not_changed_and_the_lists_are_new(self):
        copies, revokes = [(1, "a"), (4, ("b",))], [2, 3]
        made = records_of(1, copies, revokes)
        again = records_of(1, copies, revokes)
        self.assertEqual(made, again)
        spoil(made)
        self.assertEqual((copies, revokes), ([(1, "a"), (4, ("b",))], [2, 3]))
        self.assertEqual(records_of(1, copies, revokes), again)


class SlotsNeededTest(unittest.TestCase):
    """2.3"""

    def test_document_example(self):
        self.assertEqual(slots_needed([], [0, 1, 2, 3, 4, 5, 6, 7, 8]), 3)

    def test_each_record_takes_one_slot(self):
        for copies in range(33):
            for revokes in range(33):
                # A group of up to eight has one record of its own, and each copy another.
                expected = (copies + 7) // 8 + copies + (revokes + 7) // 8 + 1
                arguments = copies_of(copies), list(range(revokes))
                self.assertEqual(slots_needed(*arguments), expected)
                self.assertEqual(len(records_of(5, *arguments)), expected)


class ErrorsTest(unittest.TestCase):
    """2.4"""

    def check(self, error_class, copies, revokes):
        """The error that both functions raise, the lists being left as they are."""
        before = [list(part) if isinstance(part, list) else part for part in (copies, revokes)]
        error = raised(self, error_class, records_of, 1, copies, revokes)
        other = raised(self, error_class, slots_needed, copies, revokes)
        if error_class is BadBlock:
            self.assertIs(error.block, other.block)
        self.assertEqual([copies, revokes], before)
        return error

    def test_bad_numbers(self):
        for number in (0, -1, -10 ** 30, *NO_INTEGERS):
            with self.subTest(repr(number)):
                self.assertIs(raised(self, BadCount, records_of, number, [], []).count, number)

    def test_copies_that_are_no_list(self):
        for copies in NO_LISTS:
            with self.subTest(repr(copies)):
                self.assertIs(self.check(BadBlock, copies, []).block, copies)

    def test_copies_that_hold_no_pairs(self):
        for item in NO_PAIRS:
            for copies in ([item], [(0, "a"), item], [(40, "a"), item], [item, (None, None)]):
                with self.subTest(repr(copies)):
                    self.assertIs(self.check(BadBlock, copies, []).block, copies)

    def test_copies_of_no_homes(self):
        for home in NO_HOMES:
            with self.subTest(repr(home)):
                self.assertIs(self.check(BadBlock, [(home, "a")], []).block, home)
                self.assertIs(self.check(BadBlock, [(0, "a"), (home, "b"), (-5, "c")], []).block, home)

    def test_copies_that_do_not_ascend(self):
        for homes, wrong in (((2, 1), 1), ((2, 2), 2), ((0, 0), 0), ((0, 31, 30, 32), 30), ((5, 6, 4, 3), 4)):
            copies = [(home, "a") for home in homes]
            self.assertEqual(self.check(BadBlock, copies, []).block, wrong)
        self.assertEqual(raised(self, BadBlock, records_of, 1, [(2, "a"), (1, "b")], []).block, 1)

    def test_bad_values(self):
        for value in (*NO_VALUES, nested(8), nested(9), (1, nested(7)), nested(5000)):
            self.check(BadValue, [(0, value)], [])
            self.check(BadValue, [(0, "a"), (3, value), (4, "b")], [])

    def test_revokes_that_are_no_list(self):
        for revokes in NO_LISTS:
            with self.subTest(repr(revokes)):
                self.assertIs(self.check(BadBlock, [], revokes).block, revokes)

    def test_revokes_of_no_homes(self):
        for home in NO_HOMES:
            with self.subTest(repr(home)):
                self.assertIs(self.check(BadBlock, [], [home]).block, home)
                self.assertIs(self.check(BadBlock, [(3, "a")], [0, 1, home, -5]).block, home)

    def test_revokes_that_do_not_ascend(self):
        for revokes, wrong in (([2, 1], 1), ([2, 2], 2), ([0, 31, 30, 32], 30), ([5, 6, 4, 3], 4)):
            self.assertEqual(self.check(BadBlock, [], revokes).block, wrong)

    def test_homes_31_and_32(self):
        self.assertEqual(slots_needed([(31, "a")], [31]), 4)
        self.assertEqual(self.check(BadBlock, [(31, "a"), (32, "b")], []).block, 32)
        self.assertEqual(self.check(BadBlock, [], [31, 32]).block, 32)

    def test_the_order_of_the_errors(self):
        self.assertEqual(raised(self, BadCount, records_of, 0, None, None).count, 0)
        self.assertEqual(raised(self, BadCount, records_of, True, [(40, None)], [40]).count, True)
        self.assertIsNone(self.check(BadBlock, None, [40]).block)
        copies = [(40, "a"), (1,)]
        self.assertIs(self.check(BadBlock, copies, [50]).block, copies)
        self.assertEqual(self.check(BadBlock, [(0, None), (40, "a")], [50]).block, 40)
        self.check(BadValue, [(0, "a"), (1, None)], None)
        self.check(BadValue, [(0, [1])], [50])


class ReadBackTest(unittest.TestCase):
    """2.5: what is there"""

    def check(self, layout, slot, records, expected, number=1):
        disk = new_disk(layout)
        place(layout, disk, slot, records)
        before = state(disk)
        self.assertEqual(transaction_at(layout, disk, number, slot), expected)
        self.assertEqual(state(disk), before)

    def test_document_example(self):
        layout = Layout(8, 4)
        disk = new_disk(layout)
        disk.write(8, ("revoke", 1, (2,)))
        disk.write(1, ("commit", 1))
        self.assertEqual(
            [transaction_at(layout, disk, 1, 7), transaction_at(layout, disk, 2, 7)], [([], [2], 1), None])

    def test_every_size_is_read_back(self):
        layout = Layout(64, 32)
        for many in range(33):
            copies, revokes = copies_of(many), list(range(32 - many))
            records = records_of(9, copies, revokes)
            for slot in (0, 1, 30, 63):
                self.check(layout, slot, records, (copies, revokes, (slot + len(records)) % 64), 9)

    def test_from_every_slot_of_the_ring(self):
        layout = Layout(8, 4)
        copies = [(0, "a"), (2, (1,)), (3, -1)]
        for slot in range(8):
            self.check(layout, slot, records_of(2, copies, [1]), (copies, [1], (slot + 6) % 8), 2)

    def test_the_last_slot_and_the_first_behind_it(self):
        layout = Layout(8, 4)
        self.check(layout, 7, [("commit", 1)], ([], [], 0))
        self.check(layout, 6, [("commit", 1)], ([], [], 7))
        self.check(layout, 6, records_of(1, [], [3]), ([], [3], 0))

    def test_a_transaction_that_fills_the_ring(self):
        layout = Layout(8, 8)
        copies = copies_of(6)
        for slot in range(8):
            self.check(layout, slot, records_of(1, copies, []), (copies, [], slot))

    def test_the_newest_values_are_read(self):
        layout = Layout(8, 4)
        disk = new_disk(layout)
        place(layout, disk, 0, records_of(1, [(2, "a")], []))
        disk.flush()
        disk.write(2, ("copy", 1, "b"))
        self.assertEqual(transaction_at(layout, disk, 1, 0), ([(2, "b")], [], 3))
        self.assertEqual(transaction_at(layout, disk.crashed([]), 1, 0), ([(2, "a")], [], 3))

    def test_groups_in_any_sequence(self):
        records = [
            ("descriptor", 4, (5, 6)), ("copy", 4, "a"), ("copy", 4, "b"), ("revoke", 4, (7,)),
            ("descriptor", 4, (1,)), ("copy", 4, "c"), ("revoke", 4, (0, 7, 31)), ("revoke", 4, (0,)),
            ("descriptor", 4, (5,)), ("copy", 4, "d"), ("commit", 4),
        ]
        copies = [(5, "a"), (6, "b"), (1, "c"), (5, "d")]
        self.check(Layout(16, 4), 10, records, (copies, [7, 0, 7, 31, 0], 5), 4)

    def test_homes_31_and_groups_of_eight(self):
        homes = (0, 1, 2, 3, 4, 5, 6, 31)
        self.check(Layout(8, 4), 3, [("revoke", 1, homes), ("commit", 1)], ([], list(homes), 5))
        records = [("descriptor", 1, homes), *[("copy", 1, home) for home in homes], ("commit", 1)]
        self.check(Layout(10, 4), 3, records, ([(home, home) for home in homes], [], 3))

    def test_copies_of_any_value(self):
        for value in (nested(7), "", -1, ("commit", 1), ("copy", 1, "a")):
            self.check(Layout(8, 4), 0, records_of(1, [(3, value)], []), ([(3, value)], [], 3))

    def test_what_stands_behind_the_commit_record_is_not_read(self):
        records = [*records_of(1, [(3, "a")], []), ("copy", 1, "b"), ("commit", 1), ("commit", 2)]
        self.check(Layout(8, 4), 0, records, ([(3, "a")], [], 3))

    def test_the_caller_owns_the_lists(self):
        layout = Layout(8, 4)
        disk = new_disk(layout)
        place(layout, disk, 0, records_of(1, [(2, "a"), (3, "b")], [0, 1]))
        before = state(disk)
        spoil(transaction_at(layout, disk, 1, 0))
        self.assertEqual(transaction_at(layout, disk, 1, 0), ([(2, "a"), (3, "b")], [0, 1], 5))
        self.assertEqual(state(disk), before)


class NotThereTest(unittest.TestCase):
    """2.5: what is no transaction"""

    def check(self, records, slots=16, slot=0):
        layout = Layout(slots, 4)
        disk = new_disk(layout)
        place(layout, disk, slot, records)
        self.assertIsNone(transaction_at(layout, disk, 3, slot), records)

    def test_an_empty_ring(self):
        self.check([])

    def test_one_record_spoiled(self):
        records = records_of(3, copies_of(9), list(range(9)))
        for at, record in enumerate(records):
            wrong = [
                0, -3, record[0], (), (record,), record[:-1], (*record, 3), (*record, ()), (record[0], 4, *record[2:]),
                (record[0], "3", *record[2:]), (record[0], (3,), *record[2:]), ("other", *record[1:]),
                (3, *record[1:]), ("", *record[1:]), ((record[0],), *record[1:]),
            ]
            for other in wrong:
                with self.subTest(at=at, other=repr(other)):
                    self.check([*records[:at], other, *records[at + 1:]], 32)

    def test_one_record_left_out(self):
        records = records_of(3, copies_of(9), list(range(9)))
        for at in range(len(records)):
            # A whole group of revokes may be missing; nothing else.
            if records[at][0] != "revoke":
                self.check([*records[:at], *records[at + 1:]], 32)

    def test_one_record_twice(self):
        records = records_of(3, copies_of(2), [])
        for at in range(3):
            self.check([*records[:at], records[at], *records[at:]])

    def test_groups_that_are_none(self):
        groups = (
            (), 2, "2", (32,), (-1,), (0, 32), (1, 0), (1, 1), (0, 2, 1), ("2",), ((2,),), ("",), tuple(range(9)),
            (0, 1, "2"), (10 ** 30,),
        )
        for group in groups:
            many = len(group) if isinstance(group, tuple) else 1
            copies = [("copy", 3, "a")] * many
            with self.subTest(repr(group)):
                self.check([("revoke", 3, group), ("commit", 3)])
                self.check([("revoke", 3, (1,)), ("revoke", 3, group), ("commit", 3)])
                self.check([("descriptor", 3, group), *copies, ("commit", 3)])
                self.check([("descriptor", 3, (1,)), ("copy", 3, 1), ("descriptor", 3, group), *copies, ("commit", 3)])

    def test_copies_without_a_descriptor(self):
        self.check([("copy", 3, "a"), ("commit", 3)])
        self.check([("revoke", 3, (1,)), ("copy", 3, "a"), ("commit", 3)])
        self.check([("descriptor", 3, (1,)), ("copy", 3, "a"), ("copy", 3, "b"), ("commit", 3)])

    def test_something_between_a_descriptor_and_its_copies(self):
        for record in (("revoke", 3, (2,)), ("descriptor", 3, (2,)), ("commit", 3)):
            self.check([("descriptor", 3, (1,)), record, ("copy", 3, "a"), ("commit", 3)])

    def test_no_commit_record_in_the_whole_ring(self):
        for slot in (0, 5, 7):
            self.check([("revoke", 3, (2,))] * 8, 8, slot)
            self.check([("descriptor", 3, (2,)), ("copy", 3, "a")] * 4, 8, slot)
            self.check([("revoke", 3, (2,))] * 7 + [("commit", 4)], 8, slot)

    def test_no_slot_is_read_twice(self):
        # The last record asks for copies that could only stand in the first slots.
        for slot in range(8):
            self.check([("revoke", 3, (2,))] * 7 + [("descriptor", 3, (2,))], 8, slot)
            self.check([("descriptor", 3, (1,)), ("copy", 3, "a")] * 3 + [("revoke", 3, (2,))] * 2, 8, slot)
            homes = (0, 1, 2, 3, 4, 5, 6, 7)
            self.check([("descriptor", 3, homes), *[("copy", 3, "a")] * 7], 8, slot)

    def test_another_number(self):
        layout = Layout(8, 4)
        disk = new_disk(layout)
        place(layout, disk, 0, records_of(3, [(1, "a")], [2]))
        self.assertEqual([transaction_at(layout, disk, number, 0) for number in (1, 2, 4, 10 ** 30)], [None] * 4)
        found = [transaction_at(layout, disk, 3, slot) for slot in (1, 2, 3)]
        self.assertEqual(found, [([(1, "a")], [], 4), None, ([], [], 4)])

    def test_bad_slots_and_numbers(self):
        layout = Layout(8, 4)
        disk = new_disk(layout)
        place(layout, disk, 0, records_of(1, [(1, "a")], [2]))
        before = state(disk)
        for slot in (-1, 8, 10 ** 30, *NO_INTEGERS):
            with self.subTest(repr(slot)):
                self.assertIs(raised(self, BadBlock, transaction_at, layout, disk, 1, slot).block, slot)
                self.assertIs(raised(self, BadBlock, transaction_at, layout, disk, 0, slot).block, slot)
        for number in (0, -1, *NO_INTEGERS):
            with self.subTest(repr(number)):
                self.assertIs(raised(self, BadCount, transaction_at, layout, disk, number, 0).count, number)
                self.assertIs(raised(self, BadBlock, transaction_at, layout, disk, number, None).block, None)
        self.assertEqual(state(disk), before)


if __name__ == "__main__":
    unittest.main()
