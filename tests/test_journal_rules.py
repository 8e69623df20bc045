"""Point 8.1 of the document: what each rule that is left out leaves out of a journal."""

import unittest

from revokelog.errors import BadRule, NoSpace
from revokelog.journals import RULES, Journal, is_rule, needed
from revokelog.layouts import Layout, new_disk
from revokelog.records import records_of, transaction_at
from support import FLUSH, NO_RULES, journal_state, new_journal, raised, slot_writes

NAMES = ("revoke", "cancel", "drop", "reuse", "forget", "commit", "settle", "tail", "header")


def busy_journal(without):
    """A journal with kept transactions, on which nothing differs but what the rule leaves out."""
    journal = new_journal(32, 6, without)
    for home in (1, 2, 3):
        journal.log(home, ("first", home))
    journal.commit()
    journal.log(2, "second")
    journal.revoke(3)
    journal.commit()
    return journal


def committed(without, copies, revokes):
    """The events of one commit behind a kept transaction (1) with copies of the homes 1 and 2."""
    journal = new_journal(32, 6, without)
    journal.log(1, "a")
    journal.log(2, "a")
    journal.commit()
    many = len(journal.medium.events())
    for home, value in copies:
        journal.log(home, value)
    for home in revokes:
        journal.revoke(home)
    journal.commit()
    return journal, journal.medium.events()[many:]


def checkpointed(without):
    """The events of a checkpoint of a transaction with copies of the homes 1 and 2."""
    journal = new_journal(32, 6, without)
    journal.log(1, "a")
    journal.log(2, "b")
    journal.commit()
    many = len(journal.medium.events())
    dropped = journal.checkpoint()
    return journal, dropped, journal.medium.events()[many:]


class RulesTest(unittest.TestCase):
    def test_document_example(self):
        self.assertEqual(RULES, NAMES)
        self.assertIs(type(RULES), tuple)

    def test_each_name_is_taken(self):
        layout = Layout(8, 4)
        for rule in RULES:
            self.assertEqual(Journal(layout, new_disk(layout), without=rule).without, rule)
            self.assertIs(is_rule(rule), True)

    def test_other_things_are_not(self):
        for rule in (*NO_RULES, None):
            with self.subTest(repr(rule)):
                self.assertIs(is_rule(rule), False)
        for rule in NO_RULES:
            with self.subTest(repr(rule)):
                self.assertIs(raised(self, BadRule, new_journal, without=rule).rule, rule)


class CommitEventsTest(unittest.TestCase):
    """The events of a commit and of a checkpoint, without each rule."""

    def check_commit(self, without, revokes, flushes):
        """The records of a commit, with a flush ahead of and behind the last one, or not."""
        journal, events = committed(without, [(3, "c")], [1, 4])
        records = records_of(2, [(3, "c")], revokes)
        written = slot_writes(journal.plan, 4, records)
        before, behind = flushes
        self.assertEqual(events, [*written[:-1], *[FLUSH] * before, written[-1], *[FLUSH] * behind])
        after = 4 + len(records)
        self.assertEqual(transaction_at(journal.plan, journal.medium, 2, 4), ([(3, "c")], revokes, after))
        self.assertEqual((journal.numbers(), journal.free_slots()), ((1, 3), 32 - after))

    def test_commit_without_each_rule(self):
        for rule in (None, *RULES):
            with self.subTest(rule):
                revokes = [] if rule == "revoke" else [1]
                self.check_commit(rule, revokes, (rule != "commit", rule != "settle"))

    def test_checkpoint_without_each_rule(self):
        for rule in (None, *RULES):
            with self.subTest(rule):
                journal, dropped, events = checkpointed(rule)
                first = journal.plan.home_block(0)
                self.assertEqual(events, [
                    ("write", first + 1, "a"), ("write", first + 2, "b"), *[FLUSH] * (rule != "tail"),
                    ("write", 0, ("tail", 2, 4)), *[FLUSH] * (rule != "header"),
                ])
                self.assertEqual((dropped, journal.kept(), journal.numbers()), (1, [], (2, 2)))

    def test_an_empty_commit_and_a_checkpoint_of_nothing_without_each_rule(self):
        for rule in RULES:
            journal = new_journal(8, 4, rule)
            before = journal_state(journal)
            self.assertEqual((journal.commit(), journal.checkpoint()), (None, 0))
            self.assertEqual(journal_state(journal), before)


class StateTest(unittest.TestCase):
    """What a journal shows of itself, without each rule."""

    def test_the_running_transaction_without_each_rule(self):
        for rule in (None, *RULES):
            journal = new_journal(32, 6, rule)
            journal.revoke(1)
            journal.log(1, "a")
            journal.log(2, "b")
            journal.revoke(2)
            copies = [(1, "a"), (2, "b")] if rule == "drop" else [(1, "a")]
            revokes = [1, 2] if rule == "cancel" else [2]
            with self.subTest(rule):
                self.assertEqual(journal.running(), (copies, revokes))
                self.assertEqual([journal.value(1), journal.value(2)], ["a", "b" if rule == "drop" else 0])

    def test_the_lists_without_each_rule(self):
        for rule in (None, *RULES):
            kept = [(1, [1, 2, 3]), (2, [2])] if rule == "forget" else [(1, [1]), (2, [2])]
            with self.subTest(rule):
                self.assertEqual(busy_journal(rule).kept(), kept)

    def test_what_is_needed_without_each_rule(self):
        for rule in (None, *RULES):
            journal = busy_journal(rule)
            for home in (1, 2, 3, 4):
                journal.revoke(home)
            with self.subTest(rule):
                self.assertEqual(needed(journal), [1, 2, 3] if rule == "revoke" else [1, 2])

    def test_reuse_leaves_nothing_out_of_a_journal(self):
        plain, other = busy_journal(None), busy_journal("reuse")
        for journal in (plain, other):
            journal.checkpoint()
            journal.revoke(1)
            journal.log(1, "c")
            journal.log(2, "d")
            journal.revoke(2)
        self.assertEqual(journal_state(plain), journal_state(other))


class EachRuleTest(unittest.TestCase):
    def test_revoke_the_lists_forget_and_the_space_is_less(self):
        journal, _ = committed("revoke", [], [1])
        self.assertEqual((journal.kept(), journal.free_slots()), ([(1, [2]), (2, [])], 27))
        self.assertEqual(transaction_at(journal.plan, journal.medium, 2, 4), ([], [], 5))
        self.assertEqual(journal.value(1), 0)

    def test_revoke_records_that_are_not_written_need_no_space(self):
        errors = []
        for rule in (None, "revoke"):
            journal = new_journal(8, 8, rule)
            for home in (0, 1, 2):
                journal.log(home, "a")
            journal.commit()
            for home in (4, 5):
                journal.log(home, "b")
            journal.revoke(0)
            errors.append(raised(self, NoSpace, journal.commit).needed)
        self.assertEqual(errors, [5, 4])

    def test_cancel_the_record_and_the_copy_are_both_written(self):
        for rule, revokes in ((None, []), ("cancel", [1])):
            journal, _ = committed(rule, [], [])
            journal.revoke(1)
            journal.log(1, "new")
            self.assertEqual(journal.running(), ([(1, "new")], revokes))
            journal.commit()
            after = 4 + 3 + len(revokes)
            self.assertEqual(transaction_at(journal.plan, journal.medium, 2, 4), ([(1, "new")], revokes, after))
            self.assertEqual((journal.kept(), journal.value(1)), ([(1, [2]), (2, [1])], "new"))

    def test_cancel_still_lets_a_revoke_take_back_a_copy(self):
        journal = new_journal(8, 4, "cancel")
        journal.log(1, "a")
        journal.revoke(1)
        self.assertEqual(journal.running(), ([], [1]))

    def test_drop_the_copy_is_written_and_kept(self):
        for rule, copies in ((None, []), ("drop", [(3, "c")])):
            journal, _ = committed(rule, [(3, "c")], [3])
            after = 4 + 1 + 2 * len(copies)
            self.assertEqual(transaction_at(journal.plan, journal.medium, 2, 4), (copies, [], after))
            self.assertEqual(journal.kept(), [(1, [1, 2]), (2, [home for home, _ in copies])])
            self.assertEqual(journal.value(3), "c" if rule else 0)

    def test_drop_still_lets_a_copy_take_back_a_revoke(self):
        journal = new_journal(8, 4, "drop")
        journal.revoke(1)
        journal.log(1, "a")
        self.assertEqual(journal.running(), ([(1, "a")], []))

    def test_forget_old_copies_are_written_home_again(self):
        journal = busy_journal("forget")
        many = len(journal.medium.events())
        self.assertEqual([journal.value(home) for home in (1, 2, 3)], [("first", 1), "second", ("first", 3)])
        self.assertEqual(journal.checkpoint(), 1)
        first = journal.plan.home_block(0)
        homes = [("write", first + home, ("first", home)) for home in (1, 2, 3)]
        self.assertEqual(journal.medium.events()[many:], [*homes, FLUSH, ("write", 0, ("tail", 2, 5)), FLUSH])
        self.assertEqual((journal.kept(), journal.value(2)), ([(2, [2])], "second"))

    def test_forget_drops_following_transactions_with_empty_lists_as_always(self):
        journal = new_journal(32, 6, "forget")
        journal.log(1, "a")
        journal.commit()
        journal.revoke(1)
        journal.commit()
        self.assertEqual((journal.kept(), journal.checkpoint(), journal.kept()), ([(1, [1]), (2, [])], 2, []))

    def test_commit_the_record_may_be_durable_alone(self):
        journal, events = committed("commit", [(3, "c")], [])
        disk = journal.medium
        before = disk.after(len(disk.events()) - 1)
        self.assertEqual(before.pending(), [event[1:] for event in events[:-1]])
        crashed = before.crashed([2])
        self.assertEqual([crashed.read(block) for block in (5, 6, 7)], [0, 0, ("commit", 2)])

    def test_settle_the_record_is_pending(self):
        journal, _ = committed("settle", [(3, "c")], [])
        self.assertEqual(journal.medium.pending(), [(7, ("commit", 2))])
        self.assertEqual((journal.kept(), journal.numbers()), ([(1, [1, 2]), (2, [3])], (1, 3)))

    def test_tail_the_homes_and_the_header_are_flushed_at_once(self):
        journal, _, events = checkpointed("tail")
        disk = journal.medium
        self.assertEqual(disk.pending(), [])
        self.assertEqual(disk.after(len(disk.events()) - 1).pending(), [event[1:] for event in events[:-1]])

    def test_header_it_is_pending(self):
        journal, _, _ = checkpointed("header")
        self.assertEqual(journal.medium.pending(), [(0, ("tail", 2, 4))])
        self.assertEqual(journal.medium.durable()[0], ("tail", 1, 0))
        self.assertEqual(journal.free_slots(), 32)


if __name__ == "__main__":
    unittest.main()
