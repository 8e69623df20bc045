"""Recovery: the log of a disk is read and written home."""

from revokelog.errors import BadValue
from revokelog.journals import Journal
from revokelog.layouts import HEADER
from revokelog.records import transaction_at
from revokelog.values import is_between, is_integer


def scan(layout, disk):
    """The transactions (number, copies, revokes) of the log, the oldest first."""
    return read_log(layout, disk)[0]


def read_log(layout, disk):
    """The transactions of the log, and the number and the slot that would follow them."""
    number, slot = _read_header(layout, disk)
    transactions = []
    left = layout.slots()
    found = transaction_at(layout, disk, number, slot)
    while found is not None:
        copies, revokes, after = found
        left -= _slots_taken(layout, slot, after)
        if left < 0:
            break
        transactions.append((number, copies, revokes))
        number += 1
        slot = after
        found = transaction_at(layout, disk, number, slot)
    return transactions, number, slot


def revoked(transactions):
    """The revoked homes, each with the highest number of a transaction that revokes it."""
    highest = {}
    # The numbers ascend, so the last one that is set is the highest.
    for number, _, revokes in transactions:
        for home in revokes:
            highest[home] = number
    return [(home, highest[home]) for home in sorted(highest)]


def replay(transactions):
    """The copies that recovery writes: those that no later revoke covers, nor one of their own transaction."""
    highest = dict(revoked(transactions))
    writes = []
    for number, copies, _ in transactions:
        for home, value in copies:
            if home not in highest or highest[home] < number:
                writes.append((home, value))
    return writes


def recover(layout, disk):
    """Writes the log home and empties it; a journal that goes on from there."""
    transactions, number, slot = read_log(layout, disk)
    for home, value in replay(transactions):
        disk.write(layout.home_block(home), value)
    # Until the homes are durable, a recovery that is repeated needs the log.
    disk.flush()
    disk.write(HEADER, ("tail", number, slot))
    disk.flush()
    return Journal(layout, disk)


def _read_header(layout, disk):
    """The number and the slot at which the log begins."""
    header = disk.read(HEADER)
    if not _is_header(layout, header):
        raise BadValue("header")
    return header[1], header[2]


def _is_header(layout, thing):
    if not isinstance(thing, tuple) or len(thing) != 3 or thing[0] != "tail":
        return False
    return is_integer(thing[1]) and thing[1] >= 1 and is_between(thing[2], 0, layout.slots() - 1)


def _slots_taken(layout, slot, after):
    """How many slots there are from one to another round the ring; all of them if both are the same."""
    return (after - slot - 1) % layout.slots() + 1
