"""The journal: it logs new values of homes in the ring, and writes them home at a checkpoint."""

from revokelog.errors import BadRule, BadValue, NoSpace
from revokelog.layouts import HEADER
from revokelog.records import DEEPEST_COPY, records_of
from revokelog.values import is_value

RULES = ("revoke", "cancel", "drop", "reuse", "forget", "commit", "settle", "tail", "header")


def is_rule(thing):
    # A thing of another kind may call itself equal to a name.
    return isinstance(thing, str) and thing in RULES


class Transaction:
    """A committed transaction that is kept in the log."""

    def __init__(self, number, slot, records, copies, revokes):
        self.number = number
        self.slot = slot
        self.size = len(records)
        self.copies = dict(copies)
        # Only the homes that have a revoke record, not all that were revoked.
        self.revokes = revokes
        # The homes whose copies are not written home yet, ascending.
        self.waiting = [copy[0] for copy in copies]

    def forget(self, homes):
        self.waiting = [home for home in self.waiting if home not in homes]


class Journal:
    """A running transaction, and the committed ones that the log of a disk holds."""

    def __init__(self, layout, disk, *, without=None):
        if without is not None and not is_rule(without):
            raise BadRule(without)
        self.plan = layout
        self.medium = disk
        self.without = without
        header = disk.read(HEADER)
        self._next = header[1]
        self._head = header[2]
        self._kept = []
        self._begin()

    def _begin(self):
        self._copies = {}
        self._revoked = {}

    def log(self, home, value):
        """Sets the copy of a home in the running transaction."""
        self._check_home(home)
        if not is_value(value, DEEPEST_COPY):
            raise BadValue()
        self._copies[home] = value
        if self.without != "cancel":
            self._revoked.pop(home, None)

    def revoke(self, home):
        """Adds a revoked home to the running transaction."""
        self._check_home(home)
        self._revoked[home] = True
        if self.without != "drop":
            self._copies.pop(home, None)

    def running(self):
        """The copies and the revoked homes of the running transaction, ascending."""
        copies = [(home, self._copies[home]) for home in sorted(self._copies)]
        return copies, sorted(self._revoked)

    def commit(self):
        """Writes the running transaction to the log; its number, or None if it is empty."""
        copies, revoked = self.running()
        if not copies and not revoked:
            return None
        number = self._next
        revokes = self._revokes_to_write()
        records = records_of(number, copies, revokes)
        free = self.free_slots()
        if len(records) > free:
            raise NoSpace(len(records), free)
        if self.without != "forget":
            self._forget([copy[0] for copy in copies] + revoked)
        self._kept.append(Transaction(number, self._head, records, copies, revokes))
        self._write_all(records)
        self._next = number + 1
        self._begin()
        return number

    def kept(self):
        """The numbers of the kept transactions, each with its homes not written home yet."""
        return [(transaction.number, list(transaction.waiting)) for transaction in self._kept]

    def numbers(self):
        """The number of the oldest kept transaction, and the next number."""
        return self._tail()[0], self._next

    def free_slots(self):
        return self.plan.slots() - sum([transaction.size for transaction in self._kept])

    def value(self, home):
        """The newest value of a home: running, kept in the log, or on the disk."""
        block = self.plan.home_block(home)
        if home in self._copies:
            return self._copies[home]
        for transaction in reversed(self._kept):
            if home in transaction.waiting:
                return transaction.copies[home]
        return self.medium.read(block)

    def checkpoint(self):
        """Writes the oldest kept transaction home; how many transactions were dropped."""
        if not self._kept:
            return 0
        self._write_home(self._kept[0])
        if self.without != "tail":
            self.medium.flush()
        dropped = self._drop()
        number, slot = self._tail()
        self.medium.write(HEADER, ("tail", number, slot))
        if self.without != "header":
            self.medium.flush()
        return dropped

    def _check_home(self, home):
        # The layout raises the error for what is not a home.
        self.plan.home_block(home)

    def _revokes_to_write(self):
        if self.without == "revoke":
            return []
        return needed(self)

    def _forget(self, homes):
        for transaction in self._kept:
            transaction.forget(homes)

    def _write_all(self, records):
        for record in records[:-1]:
            self._write_next(record)
        # The commit record must not become durable ahead of the others.
        if self.without != "commit":
            self.medium.flush()
        self._write_next(records[-1])
        if self.without != "settle":
            self.medium.flush()

    def _write_next(self, record):
        self.medium.write(self.plan.slot_block(self._head), record)
        self._head = (self._head + 1) % self.plan.slots()

    def _write_home(self, transaction):
        for home in transaction.waiting:
            self.medium.write(self.plan.home_block(home), transaction.copies[home])

    def _drop(self):
        """Drops the oldest transaction, and those behind it that wait for nothing."""
        many = 1
        while many < len(self._kept) and not self._kept[many].waiting:
            many += 1
        self._kept = self._kept[many:]
        return many

    def _tail(self):
        """The number and the slot at which the log begins."""
        if self._kept:
            return self._kept[0].number, self._kept[0].slot
        return self._next, self._head

    def _would_replay(self, home):
        """Whether replay of the kept transactions alone would write a home."""
        # A revoke record covers the copies of its own transaction and of all older ones.
        for transaction in reversed(self._kept):
            if home in transaction.revokes:
                return False
            if home in transaction.copies:
                return True
        return False


def needed(journal):
    """The running revoked homes without whose records replay would write them."""
    return [home for home in journal.running()[1] if journal._would_replay(home)]
