"""A disk whose writes are durable only after a flush."""

from revokelog.errors import BadBlock, BadChoice, BadCount, BadValue, TooMany
from revokelog.values import is_between, is_value

MOST_BLOCKS = 128
DEEPEST_VALUE = 8
MOST_CHOSEN = 10


class Disk:
    """A number of blocks, each with the value written last and the durable one."""

    def __init__(self, blocks):
        if not is_between(blocks, 1, MOST_BLOCKS):
            raise BadCount(blocks)
        self._begin([0] * blocks)

    def _begin(self, values):
        # The first values are kept because `after` starts from them again.
        self._first = list(values)
        self._settled = list(values)
        self._newest = list(values)
        self._waiting = []
        self._done = []

    def blocks(self):
        return len(self._first)

    def read(self, block):
        self._check_block(block)
        return self._newest[block]

    def write(self, block, value):
        self._check_block(block)
        if not is_value(value, DEEPEST_VALUE):
            raise BadValue()
        self._newest[block] = value
        self._waiting.append((block, value))
        self._done.append(("write", block, value))

    def flush(self):
        self._settled = list(self._newest)
        self._waiting = []
        self._done.append(("flush",))

    def pending(self):
        """The writes since the last flush, in order."""
        return list(self._waiting)

    def durable(self):
        """The durable values, block by block."""
        return list(self._settled)

    def events(self):
        """All writes and flushes of this disk object, in order."""
        return list(self._done)

    def after(self, many):
        """A new disk: this one as it was when its first `many` events were done."""
        if not is_between(many, 0, len(self._done)):
            raise BadCount(many)
        disk = _disk_of(self._first)
        for event in self._done[:many]:
            _repeat(disk, event)
        return disk

    def crashed(self, kept):
        """The new disk after a crash that only these pending writes survive."""
        self._check_choice(kept)
        values = list(self._settled)
        for at in kept:
            block, value = self._waiting[at]
            values[block] = value
        return _disk_of(values)

    def _check_block(self, block):
        if not is_between(block, 0, len(self._first) - 1):
            raise BadBlock(block)

    def _check_choice(self, kept):
        if not isinstance(kept, list):
            raise BadChoice(None)
        least = 0
        for at, index in enumerate(kept):
            if not is_between(index, least, len(self._waiting) - 1):
                raise BadChoice(at)
            least = index + 1


def _disk_of(values):
    disk = Disk(len(values))
    disk._begin(values)
    return disk


def _repeat(disk, event):
    if event[0] == "write":
        disk.write(event[1], event[2])
    else:
        disk.flush()


def crash_choices(disk):
    """All lists that `crashed` of the disk accepts, in ascending order."""
    many = len(disk.pending())
    if many > MOST_CHOSEN:
        raise TooMany(MOST_CHOSEN)
    choices = [[]]
    # The lists that begin with an earlier index stand ahead of those that
    # begin with a later one, and the empty list ahead of all.
    for at in reversed(range(many)):
        choices = [[]] + [[at] + later for later in choices] + choices[1:]
    return choices
