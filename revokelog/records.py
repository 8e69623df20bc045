"""The records of a transaction, as they are written to the ring and read back from it."""

from revokelog.errors import BadBlock, BadCount, BadValue
from revokelog.layouts import MOST_HOMES
from revokelog.values import is_between, is_integer, is_value

MOST_GROUPED = 8

# One less than a block holds, because a record adds one tuple.
DEEPEST_COPY = 7


def records_of(number, copies, revokes):
    """The records of a transaction, in the order in which they are written."""
    _check_number(number)
    _check_copies(copies)
    _check_revokes(revokes)
    records = [("revoke", number, tuple(group)) for group in _groups(revokes)]
    for group in _groups(copies):
        records.append(("descriptor", number, tuple([copy[0] for copy in group])))
        records.extend([("copy", number, copy[1]) for copy in group])
    records.append(("commit", number))
    return records


def slots_needed(copies, revokes):
    """How many records a transaction has; the number plays no part in it."""
    return len(records_of(1, copies, revokes))


def transaction_at(layout, disk, number, slot):
    """What (copies, revokes, next slot) the transaction that begins in a slot is, or None."""
    layout.slot_block(slot)
    _check_number(number)
    ring = _ring_from(layout, disk, slot)
    copies = []
    revokes = []
    at = 0
    while at < len(ring):
        record = ring[at]
        at += 1
        if record == ("commit", number):
            return copies, revokes, (slot + at) % layout.slots()
        revoked = _homes_of(record, "revoke", number)
        copied = _homes_of(record, "descriptor", number)
        if not revoked and not copied:
            return None
        values = _values_of(ring[at:at + len(copied)], number)
        if len(values) < len(copied):
            return None
        revokes.extend(revoked)
        copies.extend(list(zip(copied, values)))
        at += len(copied)
    return None


def _check_number(number):
    if not is_integer(number) or number < 1:
        raise BadCount(number)


def _check_copies(copies):
    if not _is_list_of_pairs(copies):
        raise BadBlock(copies)
    _check_homes([copy[0] for copy in copies])
    for copy in copies:
        if not is_value(copy[1], DEEPEST_COPY):
            raise BadValue()


def _check_revokes(revokes):
    if not isinstance(revokes, list):
        raise BadBlock(revokes)
    _check_homes(revokes)


def _check_homes(homes):
    wrong = _first_wrong(homes)
    if wrong is not None:
        raise BadBlock(homes[wrong])


def _first_wrong(homes):
    """The index of the first item that is no home above the one before, or None."""
    least = 0
    for at, home in enumerate(homes):
        if not is_between(home, least, MOST_HOMES - 1):
            return at
        least = home + 1
    return None


def _is_list_of_pairs(thing):
    return isinstance(thing, list) and all([isinstance(item, tuple) and len(item) == 2 for item in thing])


def _groups(rows):
    return [rows[at:at + MOST_GROUPED] for at in range(0, len(rows), MOST_GROUPED)]


def _ring_from(layout, disk, slot):
    """What all slots hold, beginning with this one."""
    many = layout.slots()
    return [disk.read(layout.slot_block((slot + step) % many)) for step in range(many)]


def _is_record(thing, word, number):
    """Whether a block holds a record of three parts that begins with this word and number."""
    return isinstance(thing, tuple) and len(thing) == 3 and thing[:2] == (word, number)


def _homes_of(record, word, number):
    """The homes that a record of this word and number lists, or () if it is none."""
    if _is_record(record, word, number) and _is_group(record[2]):
        return record[2]
    return ()


def _is_group(thing):
    return isinstance(thing, tuple) and 1 <= len(thing) <= MOST_GROUPED and _first_wrong(thing) is None


def _values_of(records, number):
    """The values of the copy records, up to the first one that is none."""
    values = []
    for record in records:
        if not _is_record(record, "copy", number):
            return values
        values.append(record[2])
    return values
