"""Stage 4 of the document: points 4.1 to 4.4."""

import unittest
from random import Random

from revokelog.disks import Disk
from revokelog.errors import BadValue
from revokelog.journals import Journal
from revokelog.layouts import Layout, new_disk
from revokelog.records import records_of
from revokelog.recovery import recover, replay, revoked, scan
from support import (
    FLUSH, NO_HEADERS, UNWRITTEN_HEADERS, FalseDisk, every_crash, place, raised, spoil, state,
)

LOG = [(1, [(2, "a"), (3, "b")], []), (2, [(3, "c")], [2]), (3, [(2, "d")], [])]


def disk_with(layout, transactions, number=1, slot=0, durable=True):
    """A disk whose log holds these transactions (copies, revokes), and the next number and slot."""
    disk = Disk(layout.disk_size())
    disk.write(0, ("tail", number, slot))
    for copies, revokes in transactions:
        records = records_of(number, copies, revokes)
        place(layout, disk, slot, records)
        number += 1
        slot = (slot + len(records)) % layout.slots()
    if durable:
        disk.flush()
    return disk, number, slot


def homes_of(layout, disk):
    return [disk.read(layout.home_block(home)) for home in range(layout.homes())]


class ScanTest(unittest.TestCase):
    """4.1"""

    def check(self, layout, disk, expected):
        before = state(disk)
        self.assertEqual(scan(layout, disk), expected)
        self.assertEqual(scan(layout, disk), expected)
        self.assertEqual(state(disk), before)

    def test_an_empty_log(self):
        for layout in (Layout(8, 4), Layout(64, 32)):
            self.check(layout, new_disk(layout), [])
            for slot in (0, 1, layout.slots() - 1):
                self.check(layout, disk_with(layout, [], 7, slot)[0], [])

    def test_several_transactions(self):
        layout = Layout(16, 8)
        made = [([(2, "a"), (3, (1, ()))], []), ([], [2]), ([(0, 5)], [3, 4]), ([], [])]
        disk, _, _ = disk_with(layout, made)
        self.check(layout, disk, [(at + 1, *one) for at, one in enumerate(made)])

    def test_from_another_number_and_slot(self):
        layout = Layout(16, 8)
        made = [([(2, "a")], [7]), ([(3, "b"), (5, "c")], [])]
        for number in (2, 3, 10 ** 20):
            for slot in range(16):
                disk, _, _ = disk_with(layout, made, number, slot)
                self.check(layout, disk, [(number, *made[0]), (number + 1, *made[1])])

    def test_the_ring_filled_by_one_transaction(self):
        layout = Layout(8, 8)
        copies = [(home, home) for home in range(6)]
        for slot in range(8):
            disk, number, after = disk_with(layout, [(copies, [])], 5, slot)
            self.assertEqual((number, after), (6, slot))
            self.check(layout, disk, [(5, copies, [])])

    def test_the_ring_filled_by_several_transactions(self):
        layout = Layout(8, 8)
        made = [([(1, "a")], []), ([], [1]), ([(2, "b")], [])]
        for slot in range(8):
            disk, number, after = disk_with(layout, made, 5, slot)
            self.assertEqual((number, after), (8, slot))
            self.check(layout, disk, [(5 + at, *one) for at, one in enumerate(made)])

    def test_transactions_of_one_record_fill_the_ring(self):
        layout = Layout(8, 4)
        disk, number, _ = disk_with(layout, [([], [])] * 8, 3, 6)
        self.check(layout, disk, [(at, [], []) for at in range(3, number)])

    def test_no_more_slots_than_the_ring_has(self):
        layout = Layout(8, 8)
        # A slot holds one record only, so this takes a disk that answers differently each time.
        made = [([(1, "a"), (2, "b"), (3, "c")], []), ([(4, "d"), (5, "e")], [])]
        first, second = records_of(1, *made[0]), records_of(2, *made[1])

        class Turning(FalseDisk):
            def read(self, block):
                if 1 <= block <= 2 and self.turns[block]:
                    return self.turns[block].pop(0)
                return Disk.read(self, block)

        disk = Turning(17, {})
        disk.write(0, ("tail", 1, 0))
        place(layout, disk, 0, first)
        place(layout, disk, 5, second)
        # The transaction of four records needs slots 5 to 7, and slot 0 again.
        disk.turns = {1: [first[0], second[3]], 2: []}
        self.assertEqual(scan(layout, disk), [(1, *made[0])])
        # One of three records does not.
        disk.turns = {1: [], 2: []}
        place(layout, disk, 5, records_of(2, [(4, "d")], []))
        place(layout, disk, 0, first)
        self.assertEqual(scan(layout, disk), [(1, *made[0]), (2, [(4, "d")], [])])

    def test_the_last_transaction_without_one_of_its_records(self):
        layout = Layout(16, 8)
        made = [([(2, "a")], []), ([(3, "b"), (4, "c")], [1])]
        for slot in (0, 9):
            for lost in range(8):
                disk, _, _ = disk_with(layout, made, 1, slot)
                disk.write(layout.slot_block((slot + lost) % 16), 0)
                expected = [] if lost < 3 else [(1, *made[0])]
                # A group of revokes is not missed if the rest stands where it stood.
                self.check(layout, disk, expected)

    def test_a_transaction_in_the_middle_is_lost(self):
        layout = Layout(16, 8)
        made = [([(2, "a")], []), ([(3, "b")], []), ([(4, "c")], [])]
        for lost in (3, 4, 5):
            disk, _, _ = disk_with(layout, made)
            disk.write(layout.slot_block(lost), ("commit", 9))
            self.check(layout, disk, [(1, *made[0])])

    def test_old_records_behind_the_last_transaction(self):
        layout = Layout(16, 8)
        made = [([(2, "a")], []), ([(3, "b")], [])]
        for number in (1, 4, 9, 10, 12, 13, 99):
            for old in (([(5, "x")], []), ([], [2]), ([], [])):
                disk, after, slot = disk_with(layout, made, 10, 12)
                self.assertEqual((after, slot), (12, 2))
                place(layout, disk, slot, records_of(number, *old))
                expected = [(10, *made[0]), (11, *made[1])]
                if number == 12:
                    expected.append((12, *old))
                self.check(layout, disk, expected)

    def test_older_transactions_ahead_of_the_tail(self):
        layout = Layout(16, 8)
        disk, _, _ = disk_with(layout, [([(2, "a")], []), ([], [2]), ([(4, "c")], [])])
        disk.write(0, ("tail", 2, 3))
        self.check(layout, disk, [(2, [], [2]), (3, [(4, "c")], [])])
        disk.write(0, ("tail", 3, 5))
        self.check(layout, disk, [(3, [(4, "c")], [])])
        for header in (("tail", 4, 8), ("tail", 2, 5), ("tail", 1, 3)):
            disk.write(0, header)
            self.check(layout, disk, [])

    def test_the_newest_values_are_read(self):
        layout = Layout(16, 8)
        disk, _, _ = disk_with(layout, [([(2, "a")], [])], durable=False)
        self.check(layout, disk, [(1, [(2, "a")], [])])
        disk.flush()
        disk.write(0, ("tail", 2, 3))
        self.check(layout, disk, [])
        self.check(layout, disk.crashed([]), [(1, [(2, "a")], [])])

    def test_groups_as_they_are_read(self):
        layout = Layout(16, 8)
        disk = new_disk(layout)
        place(layout, disk, 0, [
            ("descriptor", 1, (5, 6)), ("copy", 1, "a"), ("copy", 1, "b"), ("revoke", 1, (7,)),
            ("descriptor", 1, (1,)), ("copy", 1, "c"), ("revoke", 1, (0, 7)), ("commit", 1), ("commit", 2),
        ])
        self.check(layout, disk, [(1, [(5, "a"), (6, "b"), (1, "c")], [7, 0, 7]), (2, [], [])])

    def test_headers_that_are_none(self):
        layout = Layout(8, 4)
        for header in NO_HEADERS:
            disk, _, _ = disk_with(layout, [([(2, "a")], [])])
            disk.write(0, header)
            before = state(disk)
            with self.subTest(repr(header)):
                self.assertEqual(raised(self, BadValue, scan, layout, disk).why, "header")
                self.assertEqual(state(disk), before)

    def test_headers_that_no_disk_takes(self):
        layout = Layout(8, 4)
        for header in UNWRITTEN_HEADERS:
            with self.subTest(repr(header)):
                disk = FalseDisk(13, {0: header})
                self.assertEqual(raised(self, BadValue, scan, layout, disk).why, "header")

    def test_the_last_slot_of_each_ring(self):
        for slots in (8, 9, 64):
            layout = Layout(slots, 4)
            disk = new_disk(layout)
            disk.write(0, ("tail", 1, slots - 1))
            self.check(layout, disk, [])
            disk.write(0, ("tail", 1, slots))
            self.assertEqual(raised(self, BadValue, scan, layout, disk).why, "header")

    def test_the_caller_owns_the_lists(self):
        layout = Layout(16, 8)
        made = [([(2, "a"), (3, "b")], [4, 5]), ([(4, "c")], [])]
        disk, _, _ = disk_with(layout, made)
        before = state(disk)
        spoil(scan(layout, disk))
        self.assertEqual(state(disk), before)
        self.check(layout, disk, [(1, *made[0]), (2, *made[1])])


class RevokedTest(unittest.TestCase):
    """4.2"""

    def test_document_example(self):
        self.assertEqual(revoked(LOG), [(2, 2)])

    def test_nothing(self):
        self.assertEqual((revoked([]), revoked([(1, [(2, "a")], [])])), ([], []))

    def test_the_highest_number_of_each_home(self):
        log = [(3, [], [9, 31]), (4, [], [0, 9]), (6, [(0, "a")], []), (9, [(9, 1)], [9, 10]), (12, [], [2])]
        self.assertEqual(revoked(log), [(0, 4), (2, 12), (9, 9), (10, 9), (31, 3)])

    def test_homes_of_one_transaction_in_any_order(self):
        self.assertEqual(revoked([(5, [], [7, 0, 7, 3])]), [(0, 5), (3, 5), (7, 5)])

    def test_the_list_is_not_changed(self):
        log = [(number, list(copies), list(revokes)) for number, copies, revokes in LOG]
        spoil(revoked(log))
        self.assertEqual((log, revoked(log)), (LOG, [(2, 2)]))


class ReplayTest(unittest.TestCase):
    """4.3"""

    def test_document_examples(self):
        self.assertEqual(replay(LOG), [(3, "b"), (3, "c"), (2, "d")])
        self.assertEqual(replay([(7, [(2, "a")], [2])]), [])

    def test_nothing(self):
        self.assertEqual((replay([]), replay([(1, [], [1, 2])])), ([], []))

    def test_a_revoke_earlier_and_later(self):
        copy, revoke, other = [(2, "a")], [2], [(3, "b")]
        self.assertEqual(replay([(4, copy, []), (5, [], revoke)]), [])
        self.assertEqual(replay([(4, [], revoke), (5, copy, [])]), copy)
        self.assertEqual(replay([(4, copy, []), (5, other, revoke), (6, copy, [])]), [(3, "b"), (2, "a")])
        self.assertEqual(replay([(4, copy, revoke), (5, copy, [])]), copy)
        self.assertEqual(replay([(4, copy, []), (5, copy, revoke)]), [])
        self.assertEqual(replay([(4, copy, []), (5, copy, []), (9, [], revoke), (11, other, [])]), other)

    def test_numbers_that_do_not_follow_each_other(self):
        log = [(2, [(1, "a"), (4, "b")], []), (30, [(1, "c")], [4]), (700, [(4, "d")], [])]
        self.assertEqual(replay(log), [(1, "a"), (1, "c"), (4, "d")])

    def test_older_copies_are_not_left_out(self):
        log = [(1, [(1, "a"), (2, "b")], []), (2, [(1, "c")], []), (3, [(1, "a")], [])]
        self.assertEqual(replay(log), [(1, "a"), (2, "b"), (1, "c"), (1, "a")])

    def test_the_order_of_the_copies(self):
        log = [(1, [(5, "a"), (6, "b"), (1, "c"), (5, "d")], [6])]
        self.assertEqual(replay(log), [(5, "a"), (1, "c"), (5, "d")])

    def test_the_list_is_not_changed(self):
        log = [(number, list(copies), list(revokes)) for number, copies, revokes in LOG]
        spoil(replay(log))
        self.assertEqual(log, LOG)

    def test_drawn_logs(self):
        random = Random("replay")
        for _ in range(300):
            log = drawn_log(random)
            expected = []
            for at, (_, copies, _) in enumerate(log):
                gone = [home for _, _, revokes in log[at:] for home in revokes]
                expected += [copy for copy in copies if copy[0] not in gone]
            self.assertEqual(replay(log), expected)
            rows = {}
            for number, _, revokes in log:
                rows.update((home, number) for home in revokes)
            self.assertEqual(revoked(log), sorted(rows.items()))


def drawn_log(random):
    numbers = sorted(random.sample(range(1, 40), random.randrange(7)))
    return [(number, *drawn_transaction(random, 6)) for number in numbers]


def drawn_transaction(random, homes):
    copied = sorted(random.sample(range(homes), random.randrange(homes)))
    revokes = sorted(random.sample(range(homes), random.randrange(homes)))
    return [(home, random.choice(("a", 1, (2,)))) for home in copied], revokes


class RecoverTest(unittest.TestCase):
    """4.4"""

    def check_journal(self, layout, disk, journal, number, slot):
        """The journal is empty, and its next transaction begins there."""
        self.assertIs(type(journal), Journal)
        self.assertIs(journal.plan, layout)
        self.assertIs(journal.medium, disk)
        self.assertIsNone(journal.without)
        self.assertEqual((journal.running(), journal.kept(), journal.numbers()), (([], []), [], (number, number)))
        self.assertEqual((journal.free_slots(), disk.pending()), (layout.slots(), []))
        many = len(disk.events())
        journal.log(1, "next")
        self.assertEqual(journal.commit(), number)
        self.assertEqual(disk.events()[many], ("write", 1 + slot, ("descriptor", number, (1,))))
        self.assertEqual(scan(layout, disk), [(number, [(1, "next")], [])])

    def test_document_example(self):
        layout = Layout(8, 4)
        disk = new_disk(layout)
        disk.write(1, ("descriptor", 1, (2,)))
        disk.write(2, ("copy", 1, "a"))
        disk.write(3, ("commit", 1))
        journal = recover(layout, disk)
        self.assertEqual([disk.durable()[0], disk.durable()[11], journal.numbers()], [("tail", 2, 3), "a", (2, 2)])

    def test_the_events(self):
        layout = Layout(16, 4)
        made = [([(2, "a"), (3, "b")], []), ([(3, "c")], [2]), ([(1, "e"), (2, "d")], [])]
        disk, number, slot = disk_with(layout, made, 1, 10)
        self.assertEqual((number, slot), (4, 6))
        many = len(disk.events())
        journal = recover(layout, disk)
        self.assertEqual(disk.events()[many:], [
            ("write", 20, "b"), ("write", 20, "c"), ("write", 18, "e"), ("write", 19, "d"), FLUSH,
            ("write", 0, ("tail", 4, 6)), FLUSH,
        ])
        self.assertEqual(homes_of(layout, disk), [0, "e", "d", "c"])
        self.assertEqual(disk.durable()[:1] + disk.durable()[17:], [("tail", 4, 6), 0, "e", "d", "c"])
        self.check_journal(layout, disk, journal, 4, 6)

    def test_nothing_was_read(self):
        layout = Layout(8, 4)
        for number, slot in ((1, 0), (5, 7), (10 ** 20, 3)):
            disk = disk_with(layout, [], number, slot)[0]
            disk.write(9, "x")
            many = len(disk.events())
            journal = recover(layout, disk)
            self.assertEqual(disk.events()[many:], [FLUSH, ("write", 0, ("tail", number, slot)), FLUSH])
            self.assertEqual(homes_of(layout, disk), ["x", 0, 0, 0])
            self.assertEqual(disk.durable()[9], "x")
            self.check_journal(layout, disk, journal, number, slot)

    def test_only_revokes_were_read(self):
        layout = Layout(8, 4)
        disk = disk_with(layout, [([(2, "a")], []), ([], [2])])[0]
        many = len(disk.events())
        journal = recover(layout, disk)
        self.assertEqual(disk.events()[many:], [FLUSH, ("write", 0, ("tail", 3, 5)), FLUSH])
        self.check_journal(layout, disk, journal, 3, 5)

    def test_the_ring_filled_by_one_transaction(self):
        layout = Layout(8, 8)
        copies = [(home, -home) for home in range(6)]
        disk = disk_with(layout, [(copies, [])], 5, 3)[0]
        journal = recover(layout, disk)
        self.assertEqual(homes_of(layout, disk), [0, -1, -2, -3, -4, -5, 0, 0])
        self.assertEqual(disk.durable()[0], ("tail", 6, 3))
        self.check_journal(layout, disk, journal, 6, 3)

    def test_the_last_transaction_is_not_complete(self):
        layout = Layout(16, 4)
        made = [([(1, "a")], []), ([(1, "b"), (2, "c")], [3])]
        for lost in range(3, 8):
            disk = disk_with(layout, made)[0]
            disk.write(layout.slot_block(lost), 0)
            journal = recover(layout, disk)
            self.assertEqual(homes_of(layout, disk), [0, "a", 0, 0])
            self.assertEqual(disk.durable()[0], ("tail", 2, 3))
            self.check_journal(layout, disk, journal, 2, 3)

    def test_pending_writes_are_read(self):
        layout = Layout(8, 4)
        disk = disk_with(layout, [([(1, "a")], [])], durable=False)[0]
        journal = recover(layout, disk)
        self.assertEqual((disk.durable()[0], disk.durable()[10]), (("tail", 2, 3), "a"))
        self.check_journal(layout, disk, journal, 2, 3)

    def test_a_second_recovery_changes_nothing(self):
        layout = Layout(16, 4)
        disk = disk_with(layout, [([(1, "a")], []), ([(2, "b")], [1])], 1, 12)[0]
        recover(layout, disk)
        before = disk.durable()
        many = len(disk.events())
        journal = recover(layout, disk)
        self.assertEqual((disk.durable(), len(disk.events())), (before, many + 3))
        self.check_journal(layout, disk, journal, 3, 3)

    def test_headers_that_are_none(self):
        layout = Layout(8, 4)
        for header in NO_HEADERS:
            disk = disk_with(layout, [([(2, "a")], [])])[0]
            disk.write(0, header)
            before = state(disk)
            with self.subTest(repr(header)):
                self.assertEqual(raised(self, BadValue, recover, layout, disk).why, "header")
                self.assertEqual(state(disk), before)
        for header in UNWRITTEN_HEADERS:
            disk = FalseDisk(13, {0: header})
            with self.subTest(repr(header)):
                self.assertEqual(raised(self, BadValue, recover, layout, disk).why, "header")
                self.assertEqual(disk.events(), [])

    def test_the_layout_is_not_changed(self):
        layout = Layout(8, 4)
        recover(layout, disk_with(layout, [([(2, "a")], [])])[0])
        self.assertEqual(layout, Layout(8, 4))


class RepeatedTest(unittest.TestCase):
    """4.4: a recovery that crashes end can be repeated."""

    def recovered(self, layout, disk):
        recover(layout, disk)
        return homes_of(layout, disk), disk.durable()[0]

    def check_crashes(self, layout, disk, expected, deep):
        """Recovers a disk, and what each crash on the way leaves, so many crashes deep."""
        self.assertEqual(self.recovered(layout, disk), expected)
        if deep > 0:
            for _, _, crashed in every_crash(disk):
                self.check_crashes(layout, crashed, expected, deep - 1)

    def test_crashes_of_recoveries_of_recoveries(self):
        layout = Layout(16, 4)
        made = [([(2, "a"), (3, "b")], []), ([(3, "c")], [2]), ([(2, "d")], [])]
        disk = disk_with(layout, made, 4, 9)[0].crashed([])
        self.check_crashes(layout, disk, ([0, 0, "d", "c"], ("tail", 7, 4)), 2)

    def test_crashes_of_an_empty_recovery(self):
        layout = Layout(8, 4)
        disk = disk_with(layout, [], 3, 2)[0].crashed([])
        self.check_crashes(layout, disk, ([0, 0, 0, 0], ("tail", 3, 2)), 3)

    def test_drawn_logs(self):
        random = Random("recover")
        for _ in range(60):
            layout = Layout(random.choice((16, 20)), 4)
            made = [drawn_transaction(random, 4) for _ in range(random.randrange(4))]
            while sum(len(records_of(1, *one)) for one in made) > layout.slots():
                made.pop()
            number, slot = random.randrange(1, 9), random.randrange(layout.slots())
            disk, after, behind = disk_with(layout, made, number, slot)
            homes = [0, 0, 0, 0]
            for at, (copies, _) in enumerate(made):
                gone = [home for _, revokes in made[at:] for home in revokes]
                for home, value in copies:
                    homes[home] = value if home not in gone else homes[home]
            self.check_crashes(layout, disk.crashed([]), (homes, ("tail", after, behind)), 1)


if __name__ == "__main__":
    unittest.main()
