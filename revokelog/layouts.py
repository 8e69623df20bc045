"""How a disk is divided into a header, a ring of slots and the homes."""

from revokelog.disks import Disk
from revokelog.errors import BadBlock, BadLayout
from revokelog.values import is_between

LEAST_SLOTS = 8
MOST_SLOTS = 64
LEAST_HOMES = 4
MOST_HOMES = 32

HEADER = 0


class Layout:
    """The numbers of slots and homes of a disk."""

    def __init__(self, slots, homes):
        if not is_between(slots, LEAST_SLOTS, MOST_SLOTS):
            raise BadLayout("slots")
        if not is_between(homes, LEAST_HOMES, MOST_HOMES):
            raise BadLayout("homes")
        self._slots = slots
        self._homes = homes

    def slots(self):
        return self._slots

    def homes(self):
        return self._homes

    def disk_size(self):
        return HEADER + 1 + self._slots + self._homes

    def slot_block(self, slot):
        if not is_between(slot, 0, self._slots - 1):
            raise BadBlock(slot)
        return HEADER + 1 + slot

    def home_block(self, home):
        if not is_between(home, 0, self._homes - 1):
            raise BadBlock(home)
        return HEADER + 1 + self._slots + home

    def __eq__(self, other):
        return isinstance(other, Layout) and self._slots == other._slots and self._homes == other._homes

    def __repr__(self):
        return f"Layout({self._slots}, {self._homes})"


def new_disk(layout):
    """A disk of this layout with an empty log that begins at slot 0."""
    disk = Disk(layout.disk_size())
    disk.write(HEADER, ("tail", 1, 0))
    disk.flush()
    return disk
