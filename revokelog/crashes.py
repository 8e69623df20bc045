"""Stores that are opened on the disks that crashes leave."""

from revokelog.disks import crash_choices
from revokelog.recovery import read_log, recover
from revokelog.stores import store_on


def open_store(layout, disk):
    """Recovers a disk; a store on it, with all rules."""
    return store_on(recover(layout, disk))


def crashed_store(store, kept, *, many=None):
    """The store that is opened after a crash, now or behind the first `many` events."""
    return open_store(store.layout(), _disk_behind(store, many).crashed(kept))


def last_committed(layout, disk):
    """The highest number of a transaction whose effects are on a disk or in its log."""
    # Where nothing is in the log, the number that comes next is that of the header.
    next_number = read_log(layout, disk)[1]
    return next_number - 1


def all_crashes(store, *, many=None):
    """The different rows (number, tree) that a crash may leave, in the order of its choices."""
    disk = _disk_behind(store, many)
    rows = []
    for kept in crash_choices(disk):
        row = _outcome(store.layout(), disk.crashed(kept))
        if row not in rows:
            rows.append(row)
    return rows


def _disk_behind(store, many):
    """The disk of a store as it was behind its first `many` events, or as it is now."""
    if many is None:
        return store.disk()
    return store.disk().after(many)


def _outcome(layout, disk):
    number = last_committed(layout, disk)
    return number, open_store(layout, disk).tree()
