"""Stages 3, 5 and 9 of the document: points 3.1 to 3.5, 5.1, 5.2 and 9.1."""

import unittest

from revokelog.errors import BadBlock, BadRule, BadValue, NoSpace
from revokelog.journals import Journal, needed
from revokelog.layouts import Layout, new_disk
from revokelog.records import records_of, transaction_at
from support import (
    FLUSH, NO_INTEGERS, NO_RULES, NO_VALUES, journal_state, nested, new_journal, place, raised, slot_writes, spoil,
    state,
)


def events_after(journal, many):
    return journal.medium.events()[many:]


def log_all(journal, *homes):
    for home in homes:
        journal.log(home, f"value {home}")


def commit_of(journal, copies, revokes=()):
    """The number of a transaction with these copies and revoked homes."""
    for home, value in copies:
        journal.log(home, value)
    for home in revokes:
        journal.revoke(home)
    return journal.commit()


class OpenTest(unittest.TestCase):
    """3.1"""

    def test_fields(self):
        layout = Layout(8, 4)
        disk = new_disk(layout)
        journal = Journal(layout, disk)
        self.assertIs(journal.plan, layout)
        self.assertIs(journal.medium, disk)
        self.assertIsNone(journal.without)
        self.assertEqual(Journal(layout, disk, without="tail").without, "tail")

    def test_nothing_is_done_to_the_disk(self):
        layout = Layout(8, 4)
        disk = new_disk(layout)
        before = state(disk)
        journal = Journal(layout, disk)
        self.assertEqual(state(disk), before)
        shown = (([], []), [], (1, 1), 8, [0] * 4, [])
        self.assertEqual(journal_state(journal), (shown, before))

    def test_the_header_tells_number_and_head(self):
        for number, slot in ((1, 0), (2, 7), (10 ** 20, 3)):
            layout = Layout(8, 4)
            disk = new_disk(layout)
            disk.write(0, ("tail", number, slot))
            disk.flush()
            journal = Journal(layout, disk)
            self.assertEqual((journal.numbers(), journal.kept(), journal.free_slots()), ((number, number), [], 8))
            self.assertEqual(commit_of(journal, [(1, "a")]), number)
            records = records_of(number, [(1, "a")], [])
            written = slot_writes(layout, slot, records)
            self.assertEqual(events_after(journal, 4), [*written[:-1], FLUSH, written[-1], FLUSH])
            self.assertEqual(journal.numbers(), (number, number + 1))

    def test_a_header_that_is_not_durable_yet(self):
        layout = Layout(8, 4)
        disk = new_disk(layout)
        disk.write(0, ("tail", 5, 2))
        self.assertEqual(Journal(layout, disk).numbers(), (5, 5))

    def test_old_records_in_the_log_play_no_part(self):
        layout = Layout(8, 4)
        disk = new_disk(layout)
        place(layout, disk, 0, records_of(1, [(1, "old")], [2]))
        journal = Journal(layout, disk)
        self.assertEqual((journal.value(1), journal.kept(), journal.free_slots()), (0, [], 8))

    def test_bad_rules(self):
        layout = Layout(8, 4)
        disk = new_disk(layout)
        before = state(disk)
        for rule in NO_RULES:
            with self.subTest(repr(rule)):
                self.assertIs(raised(self, BadRule, Journal, layout, disk, without=rule).rule, rule)
        self.assertEqual(state(disk), before)

    def test_the_rule_is_passed_by_name_only(self):
        layout = Layout(8, 4)
        with self.assertRaises(TypeError):
            Journal(layout, new_disk(layout), None)


class RunningTest(unittest.TestCase):
    """3.2"""

    def test_document_example(self):
        journal = new_journal()
        journal.log(2, "a")
        journal.log(3, "b")
        journal.revoke(3)
        self.assertEqual(journal.running(), ([(2, "a")], [3]))

    def test_log_takes_back_the_revoke(self):
        journal = new_journal()
        self.assertIsNone(journal.revoke(1))
        self.assertIsNone(journal.log(1, "a"))
        self.assertEqual(journal.running(), ([(1, "a")], []))

    def test_revoke_takes_back_the_copy(self):
        journal = new_journal()
        journal.log(1, "a")
        journal.revoke(1)
        self.assertEqual(journal.running(), ([], [1]))
        self.assertEqual(journal.value(1), 0)

    def test_both_again_and_again(self):
        journal = new_journal()
        for value in ("a", "b", ("c",)):
            journal.log(0, value)
            journal.log(0, value)
            self.assertEqual(journal.running(), ([(0, value)], []))
            journal.revoke(0)
            journal.revoke(0)
            self.assertEqual(journal.running(), ([], [0]))

    def test_a_home_is_not_mixed_up_with_another(self):
        journal = new_journal()
        journal.revoke(1)
        journal.log(2, "a")
        journal.revoke(3)
        journal.log(0, "b")
        self.assertEqual(journal.running(), ([(0, "b"), (2, "a")], [1, 3]))

    def test_ascending_by_home(self):
        journal = new_journal(8, 32)
        for home in (31, 0, 17, 4):
            journal.log(home, -home)
        for home in (30, 1, 16, 5):
            journal.revoke(home)
        self.assertEqual(journal.running(), ([(0, 0), (4, -4), (17, -17), (31, -31)], [1, 5, 16, 30]))

    def test_the_last_value_counts(self):
        journal = new_journal()
        journal.log(2, "a")
        journal.log(2, nested(7))
        self.assertEqual(journal.running(), ([(2, nested(7))], []))

    def test_no_event(self):
        journal = new_journal()
        log_all(journal, 0, 1, 2, 3)
        journal.revoke(2)
        self.assertEqual(events_after(journal, 2), [])

    def test_bad_homes(self):
        journal = new_journal()
        log_all(journal, 0, 1)
        journal.revoke(2)
        before = journal_state(journal)
        for home in (4, 5, 31, 32, -1, 10 ** 30, *NO_INTEGERS):
            with self.subTest(repr(home)):
                self.assertIs(raised(self, BadBlock, journal.log, home, "a").block, home)
                self.assertIs(raised(self, BadBlock, journal.revoke, home).block, home)
        self.assertEqual(journal_state(journal), before)
        self.assertEqual(raised(self, BadBlock, journal.log, 4, "a").block, 4)

    def test_homes_31_and_32(self):
        journal = new_journal(8, 32)
        journal.log(31, "a")
        journal.revoke(31)
        self.assertEqual(raised(self, BadBlock, journal.log, 32, "a").block, 32)
        self.assertEqual(raised(self, BadBlock, journal.revoke, 32).block, 32)
        self.assertEqual(journal.running(), ([], [31]))

    def test_bad_values(self):
        journal = new_journal()
        journal.log(1, "a")
        journal.revoke(2)
        before = journal_state(journal)
        for value in (*NO_VALUES, nested(8), nested(9), (1, nested(7)), nested(5000)):
            raised(self, BadValue, journal.log, 1, value)
            raised(self, BadValue, journal.log, 2, value)
        self.assertEqual(journal_state(journal), before)

    def test_a_bad_home_comes_before_a_bad_value(self):
        journal = new_journal()
        for home in (4, True, None, [0]):
            self.assertIs(raised(self, BadBlock, journal.log, home, None).block, home)
        self.assertEqual(journal.running(), ([], []))

    def test_values_of_the_document_seven_and_eight_deep(self):
        journal = new_journal()
        raised(self, BadValue, journal.log, 2, ((((((((),),),),),),),))
        journal.log(2, (((((((),),),),),),))
        self.assertEqual(journal.running(), ([(2, nested(7))], []))


class CommitTest(unittest.TestCase):
    """3.3"""

    def test_document_example(self):
        journal = new_journal()
        journal.log(2, "a")
        journal.revoke(3)
        number = journal.commit()
        shown = (number, journal.kept(), journal.numbers(), journal.free_slots(), events_after(journal, 2))
        self.assertEqual(shown, (1, [(1, [2])], (1, 2), 5, [
            ("write", 1, ("descriptor", 1, (2,))), ("write", 2, ("copy", 1, "a")), FLUSH,
            ("write", 3, ("commit", 1)), FLUSH,
        ]))

    def test_an_empty_transaction(self):
        journal = new_journal()
        before = journal_state(journal)
        self.assertIsNone(journal.commit())
        self.assertEqual(journal_state(journal), before)
        self.assertEqual(commit_of(journal, [(1, "a")]), 1)
        before = journal_state(journal)
        self.assertIsNone(journal.commit())
        self.assertEqual(journal_state(journal), before)

    def test_the_running_transaction_is_empty_behind_it(self):
        journal = new_journal()
        commit_of(journal, [(1, "a")], [2])
        self.assertEqual(journal.running(), ([], []))

    def test_only_revokes_that_are_not_needed(self):
        journal = new_journal()
        self.assertEqual(commit_of(journal, [], [0, 3]), 1)
        self.assertEqual(events_after(journal, 2), [FLUSH, ("write", 1, ("commit", 1)), FLUSH])
        self.assertEqual((journal.kept(), journal.numbers(), journal.free_slots()), ([(1, [])], (1, 2), 7))

    def test_only_the_needed_revokes_are_written(self):
        journal = new_journal(16, 8)
        commit_of(journal, [(2, "a"), (5, "b")])
        many = len(journal.medium.events())
        self.assertEqual(commit_of(journal, [(0, "c")], [1, 2, 3, 5, 7]), 2)
        written = slot_writes(journal.plan, 4, records_of(2, [(0, "c")], [2, 5]))
        self.assertEqual(events_after(journal, many), [*written[:-1], FLUSH, written[-1], FLUSH])
        self.assertEqual(transaction_at(journal.plan, journal.medium, 2, 4), ([(0, "c")], [2, 5], 8))
        self.assertEqual(journal.free_slots(), 8)

    def test_groups_of_eight_and_of_nine(self):
        for many in (8, 9):
            journal = new_journal(64, 32)
            copies = [(home, (home,)) for home in range(many)]
            commit_of(journal, copies)
            commit_of(journal, [(20, "a")], range(many))
            first = records_of(1, copies, [])
            second = records_of(2, [(20, "a")], list(range(many)))
            written = [slot_writes(journal.plan, 0, first), slot_writes(journal.plan, len(first), second)]
            expected = []
            for part in written:
                expected.extend([*part[:-1], FLUSH, part[-1], FLUSH])
            self.assertEqual(events_after(journal, 2), expected)
            self.assertEqual(transaction_at(journal.plan, journal.medium, 1, 0), (copies, [], len(first)))

    def test_round_the_ring(self):
        journal = new_journal(8, 4)
        head = 0
        for number in range(1, 12):
            many = len(journal.medium.events())
            copies = [(home, number) for home in range(number % 3 + 1)]
            self.assertEqual(commit_of(journal, copies), number)
            records = records_of(number, copies, [])
            written = slot_writes(journal.plan, head, records)
            self.assertEqual(events_after(journal, many), [*written[:-1], FLUSH, written[-1], FLUSH])
            after = (head + len(records)) % 8
            self.assertEqual(transaction_at(journal.plan, journal.medium, number, head), (copies, [], after))
            head = after
            self.assertEqual(journal.checkpoint(), 1)

    def test_the_last_slot_of_the_ring(self):
        journal = new_journal(8, 8)
        commit_of(journal, [(home, "a") for home in range(5)])
        self.assertEqual((journal.free_slots(), commit_of(journal, [], [7])), (1, 2))
        self.assertEqual(events_after(journal, 11), [FLUSH, ("write", 8, ("commit", 2)), FLUSH])
        self.assertEqual(journal.free_slots(), 0)
        journal.checkpoint()
        self.assertEqual(commit_of(journal, [], [7]), 3)
        self.assertEqual(journal.medium.events()[-2:], [("write", 1, ("commit", 3)), FLUSH])

    def test_a_transaction_that_fills_the_ring(self):
        for slot in (0, 3, 7):
            layout = Layout(8, 8)
            disk = new_disk(layout)
            disk.write(0, ("tail", 4, slot))
            disk.flush()
            journal = Journal(layout, disk)
            copies = [(home, -home) for home in range(6)]
            self.assertEqual(commit_of(journal, copies), 4)
            self.assertEqual((journal.free_slots(), journal.numbers()), (0, (4, 5)))
            self.assertEqual(transaction_at(layout, disk, 4, slot), (copies, [], slot))

    def test_a_transaction_that_needs_a_slot_more(self):
        journal = new_journal(8, 8)
        log_all(journal, 0, 1, 2, 3, 4, 5, 6)
        before = journal_state(journal)
        error = raised(self, NoSpace, journal.commit)
        self.assertEqual((error.needed, error.free), (9, 8))
        self.assertEqual(journal_state(journal), before)
        journal.revoke(6)
        self.assertEqual((journal.commit(), journal.free_slots()), (1, 0))

    def test_document_example_of_a_full_log(self):
        journal = new_journal()
        log_all(journal, 0, 1, 2)
        journal.commit()
        log_all(journal, 3, 0)
        error = raised(self, NoSpace, journal.commit)
        self.assertEqual((error.needed, error.free), (4, 3))

    def test_a_commit_that_does_not_fit_is_asked_again_behind_a_checkpoint(self):
        journal = new_journal()
        commit_of(journal, [(0, "a"), (1, "b"), (2, "c")])
        journal.log(3, "d")
        journal.log(0, "e")
        journal.revoke(1)
        before = journal_state(journal)
        for _ in range(2):
            error = raised(self, NoSpace, journal.commit)
            self.assertEqual((error.needed, error.free), (5, 3))
            self.assertEqual(journal_state(journal), before)
        self.assertEqual(journal.checkpoint(), 1)
        many = len(journal.medium.events())
        self.assertEqual(journal.commit(), 2)
        # Behind the checkpoint, the revoke is needed no more.
        written = slot_writes(journal.plan, 5, records_of(2, [(0, "e"), (3, "d")], []))
        self.assertEqual(events_after(journal, many), [*written[:-1], FLUSH, written[-1], FLUSH])
        self.assertEqual((journal.kept(), journal.free_slots()), ([(2, [0, 3])], 4))

    def test_revoke_records_count_for_the_space(self):
        journal = new_journal(8, 4)
        commit_of(journal, [(0, "a"), (1, "b"), (2, "c")])
        journal.log(3, "d")
        self.assertEqual(journal.free_slots(), 3)
        journal.revoke(0)
        error = raised(self, NoSpace, journal.commit)
        self.assertEqual((error.needed, error.free), (4, 3))
        journal.log(0, "e")
        journal.revoke(0)
        journal.revoke(3)
        self.assertEqual(journal.commit(), 2)
        self.assertEqual(transaction_at(journal.plan, journal.medium, 2, 5), ([], [0], 7))

    def test_everything_but_the_commit_record_is_durable_ahead_of_it(self):
        journal = new_journal()
        commit_of(journal, [(1, "a"), (2, "b")])
        disk = journal.medium
        at = disk.events().index(("write", 4, ("commit", 1)))
        crashed = disk.after(at).crashed([])
        self.assertEqual(crashed.durable()[1:5], [("descriptor", 1, (1, 2)), ("copy", 1, "a"), ("copy", 1, "b"), 0])
        self.assertEqual(disk.after(at).pending(), [])
        self.assertEqual(disk.pending(), [])


class KeptTest(unittest.TestCase):
    """3.4"""

    def test_copies_leave_the_older_lists(self):
        journal = new_journal(32, 6)
        commit_of(journal, [(0, "a"), (1, "a"), (2, "a"), (3, "a")])
        commit_of(journal, [(1, "b"), (4, "b")])
        self.assertEqual(journal.kept(), [(1, [0, 2, 3]), (2, [1, 4])])
        commit_of(journal, [(3, "c"), (4, "c"), (5, "c")])
        self.assertEqual(journal.kept(), [(1, [0, 2]), (2, [1]), (3, [3, 4, 5])])

    def test_revoked_homes_leave_the_older_lists_needed_or_not(self):
        journal = new_journal(32, 6)
        commit_of(journal, [(0, "a"), (1, "a"), (2, "a")])
        commit_of(journal, [(3, "b")], [1, 5])
        self.assertEqual(journal.kept(), [(1, [0, 2]), (2, [3])])
        commit_of(journal, [(1, "c")])
        journal.revoke(1)
        journal.revoke(2)
        # Both have a copy that replay would write.
        self.assertEqual(needed(journal), [1, 2])
        journal.commit()
        self.assertEqual(journal.kept(), [(1, [0]), (2, [3]), (3, []), (4, [])])

    def test_a_home_whose_revoke_is_not_needed_leaves_the_lists(self):
        # Only without a rule can a home be on a list that a revoke record covers.
        journal = new_journal(32, 6, without="drop")
        commit_of(journal, [(1, "a")])
        commit_of(journal, [(1, "b")], [1])
        self.assertEqual(journal.kept(), [(1, []), (2, [1])])
        journal.revoke(1)
        self.assertEqual(needed(journal), [])
        journal.commit()
        self.assertEqual(journal.kept(), [(1, []), (2, []), (3, [])])

    def test_what_is_only_running_changes_no_list(self):
        journal = new_journal(32, 6)
        commit_of(journal, [(0, "a"), (1, "a")])
        journal.log(0, "b")
        journal.revoke(1)
        self.assertEqual((journal.kept(), journal.numbers(), journal.free_slots()), ([(1, [0, 1])], (1, 2), 28))

    def test_a_commit_that_does_not_fit_changes_no_list(self):
        journal = new_journal(8, 8)
        commit_of(journal, [(0, "a"), (1, "a"), (2, "a")])
        journal.log(0, "b")
        journal.log(1, "b")
        raised(self, NoSpace, journal.commit)
        self.assertEqual((journal.kept(), journal.numbers(), journal.free_slots()), ([(1, [0, 1, 2])], (1, 2), 3))

    def test_numbers_with_and_without_kept_transactions(self):
        journal = new_journal(32, 6)
        self.assertEqual(journal.numbers(), (1, 1))
        for number in range(1, 5):
            commit_of(journal, [(number, "a")])
            self.assertEqual(journal.numbers(), (1, number + 1))
        journal.checkpoint()
        self.assertEqual(journal.numbers(), (2, 5))
        for _ in range(3):
            journal.checkpoint()
        self.assertEqual((journal.numbers(), journal.kept()), ((5, 5), []))

    def test_free_slots(self):
        journal = new_journal(32, 16)
        self.assertEqual(journal.free_slots(), 32)
        log_all(journal, *range(9))
        self.assertEqual(journal.free_slots(), 32)
        journal.commit()
        self.assertEqual(journal.free_slots(), 20)
        commit_of(journal, [], [2, 15])
        self.assertEqual(journal.free_slots(), 18)
        commit_of(journal, [(1, "b")])
        self.assertEqual(journal.free_slots(), 15)
        journal.checkpoint()
        self.assertEqual((journal.free_slots(), journal.kept()), (29, [(3, [1])]))


class ValueTest(unittest.TestCase):
    """3.5"""

    def test_running_then_kept_then_the_disk(self):
        journal = new_journal(32, 4)
        journal.medium.write(journal.plan.home_block(1), "disk")
        self.assertEqual(journal.value(1), "disk")
        commit_of(journal, [(1, "kept")])
        self.assertEqual(journal.value(1), "kept")
        journal.log(1, "running")
        self.assertEqual(journal.value(1), "running")
        journal.revoke(1)
        self.assertEqual(journal.value(1), "kept")
        journal.commit()
        self.assertEqual(journal.value(1), "disk")

    def test_the_newest_kept_copy(self):
        journal = new_journal(32, 4)
        for value in ("a", "b", "c"):
            commit_of(journal, [(2, value)])
            self.assertEqual(journal.value(2), value)
        for _ in range(3):
            journal.checkpoint()
            self.assertEqual(journal.value(2), "c")
        self.assertEqual(journal.medium.durable()[journal.plan.home_block(2)], "c")

    def test_of_several_lists_the_newest(self):
        journal = new_journal(32, 4, without="forget")
        commit_of(journal, [(2, "a"), (3, "a")])
        commit_of(journal, [(2, "b")])
        self.assertEqual(journal.kept(), [(1, [2, 3]), (2, [2])])
        self.assertEqual([journal.value(2), journal.value(3)], ["b", "a"])

    def test_a_home_that_is_on_no_list_is_read_off_the_disk(self):
        journal = new_journal(32, 4)
        commit_of(journal, [(1, "a")])
        commit_of(journal, [], [1])
        block = journal.plan.home_block(1)
        self.assertEqual(journal.value(1), 0)
        journal.medium.write(block, "data")
        self.assertEqual(journal.value(1), "data")
        self.assertEqual(journal.medium.pending(), [(block, "data")])

    def test_what_the_disk_holds_counts_less_than_a_kept_copy(self):
        journal = new_journal(32, 4)
        commit_of(journal, [(1, "a")])
        journal.medium.write(journal.plan.home_block(1), "data")
        self.assertEqual(journal.value(1), "a")

    def test_each_home_by_itself(self):
        journal = new_journal(32, 32)
        commit_of(journal, [(home, ("kept", home)) for home in range(0, 32, 3)])
        for home in range(1, 32, 3):
            journal.log(home, ("running", home))
        for home in range(2, 32, 3):
            journal.medium.write(journal.plan.home_block(home), ("disk", home))
        for home in range(32):
            self.assertEqual(journal.value(home), (("kept", "running", "disk")[home % 3], home))

    def test_bad_homes(self):
        journal = new_journal()
        commit_of(journal, [(1, "a")])
        before = journal_state(journal)
        for home in (4, 32, -1, 10 ** 30, *NO_INTEGERS):
            with self.subTest(repr(home)):
                self.assertIs(raised(self, BadBlock, journal.value, home).block, home)
        self.assertEqual(journal_state(journal), before)


class CheckpointTest(unittest.TestCase):
    """5.1 and 5.2"""

    def test_document_example(self):
        journal = new_journal()
        journal.log(2, "a")
        journal.commit()
        dropped = journal.checkpoint()
        shown = (dropped, journal.kept(), journal.numbers(), journal.free_slots(), events_after(journal, 7))
        self.assertEqual(shown, (1, [], (2, 2), 8, [
            ("write", 11, "a"), FLUSH, ("write", 0, ("tail", 2, 3)), FLUSH,
        ]))

    def test_without_a_kept_transaction(self):
        journal = new_journal()
        log_all(journal, 1, 2)
        journal.revoke(2)
        before = journal_state(journal)
        self.assertEqual(journal.checkpoint(), 0)
        self.assertEqual(journal_state(journal), before)
        journal.commit()
        journal.checkpoint()
        before = journal_state(journal)
        self.assertEqual(journal.checkpoint(), 0)
        self.assertEqual(journal_state(journal), before)

    def test_the_homes_of_the_list_alone_and_ascending(self):
        journal = new_journal(32, 8)
        commit_of(journal, [(7, "g"), (0, "a"), (3, "c"), (5, "e")])
        commit_of(journal, [(3, "d")], [5])
        many = len(journal.medium.events())
        self.assertEqual(journal.checkpoint(), 1)
        first = journal.plan.home_block(0)
        self.assertEqual(events_after(journal, many), [
            ("write", first, "a"), ("write", first + 7, "g"), FLUSH, ("write", 0, ("tail", 2, 6)), FLUSH,
        ])
        self.assertEqual((journal.kept(), journal.value(3), journal.value(5)), ([(2, [3])], "d", 0))

    def test_an_oldest_transaction_with_an_empty_list(self):
        journal = new_journal(32, 4)
        commit_of(journal, [(1, "a")])
        commit_of(journal, [(1, "b")])
        self.assertEqual(journal.kept(), [(1, []), (2, [1])])
        self.assertEqual(journal.checkpoint(), 1)
        self.assertEqual(events_after(journal, 12), [FLUSH, ("write", 0, ("tail", 2, 3)), FLUSH])

    def test_directly_following_transactions_with_empty_lists(self):
        journal = new_journal(64, 8)
        for copies in ([(0, "a")], [(1, "b")], [(1, "c")], [(2, "d")], [(1, "e"), (3, "e")]):
            commit_of(journal, copies)
        self.assertEqual(journal.kept(), [(1, [0]), (2, []), (3, []), (4, [2]), (5, [1, 3])])
        many = len(journal.medium.events())
        self.assertEqual(journal.checkpoint(), 3)
        self.assertEqual(events_after(journal, many), [
            ("write", journal.plan.home_block(0), "a"), FLUSH, ("write", 0, ("tail", 4, 9)), FLUSH,
        ])
        self.assertEqual((journal.kept(), journal.numbers(), journal.free_slots()),
                         ([(4, [2]), (5, [1, 3])], (4, 6), 57))

    def test_a_transaction_is_dropped_only_after_all_older_ones(self):
        journal = new_journal(64, 8)
        commit_of(journal, [(0, "a")])
        commit_of(journal, [(1, "b")])
        commit_of(journal, [], [6])
        commit_of(journal, [], [1])
        self.assertEqual(journal.kept(), [(1, [0]), (2, []), (3, []), (4, [])])
        self.assertEqual(journal.numbers(), (1, 5))
        self.assertEqual((journal.checkpoint(), journal.kept(), journal.numbers()), (4, [], (5, 5)))
        self.assertEqual(journal.medium.durable()[0], ("tail", 5, 9))

    def test_document_example_of_a_revoke_that_stays(self):
        journal = new_journal(32, 4)
        commit_of(journal, [(2, "a")])
        commit_of(journal, [(2, "b"), (3, "c")])
        commit_of(journal, [], [3])
        shown = (journal.kept(), journal.value(2), journal.value(3), journal.checkpoint(), journal.kept())
        self.assertEqual(shown, ([(1, []), (2, [2]), (3, [])], "b", 0, 1, [(2, [2]), (3, [])]))

    def test_the_header_points_to_the_head_if_none_is_kept(self):
        journal = new_journal(8, 8)
        commit_of(journal, [(home, "a") for home in range(6)])
        self.assertEqual((journal.free_slots(), journal.checkpoint()), (0, 1))
        self.assertEqual(journal.medium.durable()[0], ("tail", 2, 0))
        self.assertEqual(journal.free_slots(), 8)

    def test_round_the_ring(self):
        journal = new_journal(8, 4)
        commit_of(journal, [(0, "a"), (1, "a"), (2, "a")])
        journal.checkpoint()
        commit_of(journal, [(0, "b"), (1, "b")])
        commit_of(journal, [(2, "c")])
        self.assertEqual(journal.free_slots(), 1)
        journal.checkpoint()
        self.assertEqual((journal.medium.durable()[0], journal.free_slots()), (("tail", 3, 1), 5))
        journal.checkpoint()
        self.assertEqual((journal.medium.durable()[0], journal.free_slots()), (("tail", 4, 4), 8))

    def test_the_running_transaction_plays_no_part(self):
        journal = new_journal(32, 8)
        commit_of(journal, [(1, "a"), (2, "a")])
        journal.log(1, "b")
        journal.revoke(2)
        running = journal.running()
        self.assertEqual(journal.checkpoint(), 1)
        first = journal.plan.home_block(0)
        self.assertEqual(events_after(journal, 8), [
            ("write", first + 1, "a"), ("write", first + 2, "a"), FLUSH, ("write", 0, ("tail", 2, 4)), FLUSH,
        ])
        self.assertEqual((journal.running(), journal.value(1), journal.value(2)), (running, "b", "a"))

    def test_slots_become_free_only_after_the_header_is_durable(self):
        journal = new_journal(8, 8)
        commit_of(journal, [(home, "a") for home in range(6)])
        journal.checkpoint()
        commit_of(journal, [(0, "b")])
        disk = journal.medium
        events = disk.events()
        header = events.index(("write", 0, ("tail", 2, 0)))
        first = events.index(("write", 1, ("descriptor", 2, (0,))))
        self.assertLess(header, first)
        self.assertEqual(disk.after(first).durable()[0], ("tail", 2, 0))

    def test_the_homes_are_durable_ahead_of_the_header(self):
        journal = new_journal(8, 8)
        commit_of(journal, [(1, "a"), (6, "b")])
        journal.checkpoint()
        disk = journal.medium
        before = disk.after(disk.events().index(("write", 0, ("tail", 2, 4))))
        self.assertEqual(before.pending(), [])
        self.assertEqual([before.durable()[block] for block in (10, 15)], ["a", "b"])


class NeededTest(unittest.TestCase):
    """9.1"""

    def test_document_examples(self):
        journal = new_journal(32, 4)
        journal.log(2, "a")
        journal.commit()
        journal.revoke(2)
        journal.revoke(3)
        self.assertEqual(needed(journal), [2])
        journal = new_journal(32, 4)
        journal.log(2, "a")
        journal.commit()
        journal.revoke(2)
        journal.commit()
        journal.revoke(2)
        self.assertEqual(needed(journal), [])

    def test_only_running_revoked_homes(self):
        journal = new_journal(32, 4)
        self.assertEqual(needed(journal), [])
        commit_of(journal, [(1, "a"), (2, "a")])
        self.assertEqual(needed(journal), [])
        journal.log(1, "b")
        self.assertEqual(needed(journal), [])

    def test_ascending(self):
        journal = new_journal(64, 32)
        commit_of(journal, [(home, "a") for home in range(1, 32, 2)])
        for home in range(31, -1, -1):
            journal.revoke(home)
        self.assertEqual(needed(journal), list(range(1, 32, 2)))

    def test_a_running_copy_alone_needs_no_revoke(self):
        journal = new_journal(32, 4)
        journal.log(2, "a")
        journal.revoke(2)
        self.assertEqual(needed(journal), [])

    def test_a_copy_behind_the_revoke_record(self):
        journal = new_journal(32, 4)
        commit_of(journal, [(2, "a")])
        commit_of(journal, [], [2])
        commit_of(journal, [(2, "b")])
        journal.revoke(2)
        self.assertEqual(needed(journal), [2])
        journal.commit()
        journal.revoke(2)
        self.assertEqual(needed(journal), [])

    def test_a_revoke_record_covers_all_older_copies(self):
        journal = new_journal(64, 4)
        for value in ("a", "b", "c"):
            commit_of(journal, [(2, value)])
        commit_of(journal, [], [2])
        commit_of(journal, [(1, "d")])
        journal.revoke(2)
        self.assertEqual(needed(journal), [])

    def test_a_home_that_is_on_no_list_but_would_be_replayed(self):
        journal = new_journal(64, 4)
        commit_of(journal, [(1, "a"), (2, "a")])
        commit_of(journal, [(2, "b")])
        journal.checkpoint()
        self.assertEqual(journal.kept(), [(2, [2])])
        journal.revoke(1)
        journal.revoke(2)
        # The copy of home 1 has left the log with its transaction.
        self.assertEqual(needed(journal), [2])

    def test_a_copy_that_no_record_covers_although_it_is_on_no_list(self):
        journal = new_journal(64, 4, without="revoke")
        commit_of(journal, [(1, "a"), (2, "a")])
        commit_of(journal, [], [1])
        self.assertEqual(journal.kept(), [(1, [2]), (2, [])])
        journal.revoke(1)
        self.assertEqual(needed(journal), [1])

    def test_a_record_covers_the_copies_of_its_own_transaction(self):
        journal = new_journal(64, 4, without="drop")
        commit_of(journal, [(2, "a")])
        commit_of(journal, [(2, "b")], [2])
        self.assertEqual(transaction_at(journal.plan, journal.medium, 2, 3), ([(2, "b")], [2], 7))
        journal.revoke(2)
        self.assertEqual(needed(journal), [])

    def test_a_revoke_that_was_not_needed_has_no_record(self):
        journal = new_journal(64, 4)
        commit_of(journal, [], [2])
        commit_of(journal, [(2, "a")])
        journal.revoke(2)
        self.assertEqual(needed(journal), [2])

    def test_it_leaves_the_log_with_the_copies_that_it_covers(self):
        journal = new_journal(64, 4)
        commit_of(journal, [(2, "a")])
        commit_of(journal, [(3, "b")], [2])
        journal.revoke(2)
        self.assertEqual(needed(journal), [])
        self.assertEqual(journal.checkpoint(), 1)
        self.assertEqual(needed(journal), [])
        journal.checkpoint()
        self.assertEqual((needed(journal), journal.kept()), ([], []))

    def test_nothing_is_changed(self):
        journal = new_journal(32, 4)
        commit_of(journal, [(2, "a")])
        journal.revoke(2)
        before = journal_state(journal)
        self.assertEqual([needed(journal), needed(journal)], [[2], [2]])
        self.assertEqual(journal_state(journal), before)


class OwnersTest(unittest.TestCase):
    """0.2: returned lists are the caller's own, and journals do not touch each other."""

    def test_the_caller_owns_the_lists(self):
        journal = new_journal(32, 8)
        commit_of(journal, [(1, "a"), (2, ("a",))])
        commit_of(journal, [(2, "b")], [1])
        commit_of(journal, [(5, "c"), (6, "c")])
        journal.log(3, "d")
        journal.revoke(5)
        journal.revoke(6)
        before = journal_state(journal)
        calls = (journal.running, journal.kept, journal.numbers, journal.medium.events, journal.medium.durable)
        for call in (*calls, lambda: needed(journal)):
            spoil(call())
            self.assertEqual(journal_state(journal), before)
        self.assertEqual(journal.commit(), 4)

    def test_two_journals_on_two_disks(self):
        layout = Layout(16, 6)
        first, second = Journal(layout, new_disk(layout)), Journal(layout, new_disk(layout), without="tail")
        commit_of(first, [(1, "a")])
        first.log(2, "a")
        first.revoke(1)
        before = journal_state(first)
        commit_of(second, [(1, "b"), (3, "b")], [2])
        second.checkpoint()
        second.log(5, "c")
        self.assertEqual(journal_state(first), before)
        before = journal_state(second)
        first.commit()
        first.checkpoint()
        first.revoke(5)
        self.assertEqual(journal_state(second), before)
        self.assertEqual(layout, Layout(16, 6))

    def test_a_repeated_question_has_an_equal_answer(self):
        journal = new_journal(32, 8)
        commit_of(journal, [(1, "a"), (2, "a")])
        commit_of(journal, [(3, "a")], [1])
        journal.revoke(3)
        self.assertEqual(journal_state(journal), journal_state(journal))


if __name__ == "__main__":
    unittest.main()
