"""What several test files need."""

from copy import deepcopy

from revokelog.disks import Disk, crash_choices
from revokelog.journals import Journal, needed
from revokelog.layouts import Layout, new_disk

# Everything here is no integer; some of it cannot be hashed, some is equal to one.
NO_INTEGERS = (None, True, False, "1", "", b"1", [], [1], (), (1,), {}, {1: 1}, {1}, object(), range(3))


class AlwaysEqual:
    """Equal to everything, and cannot be hashed."""

    def __eq__(self, other):
        return True


# Everything here is no header of a disk with eight slots.
NO_HEADERS = (
    0, 1, "", "tail", (), ("tail",), ("tail", 1), ("tail", 1, 0, 0), ("tail", 1, 0, ()), (("tail", 1, 0),),
    ("Tail", 1, 0), ("", 1, 0), (0, 1, 0), (("tail",), 1, 0), (1, "tail", 0), ("commit", 1, 0),
    ("tail", 0, 0), ("tail", -1, 0), ("tail", "1", 0), ("tail", "", 0), ("tail", (1,), 0), ("tail", (), 0),
    ("tail", 1, 8), ("tail", 1, -1), ("tail", 1, 10 ** 30), ("tail", 1, "0"), ("tail", 1, ""), ("tail", 1, (0,)),
    ("tail", 1, ()),
)

# Everything here is no header either, and no disk lets it be written.
UNWRITTEN_HEADERS = (
    None, True, [], ["tail", 1, 0], {}, object(), AlwaysEqual(), ("tail", True, 0), ("tail", 1, True),
    ("tail", 1, False), ("tail", None, 0), ("tail", 1, None), ("tail", [1], 0), ("tail", 1, [0]),
)

# Everything here is no name of a rule, and not None.
NO_RULES = (
    "", "revokes", "Revoke", "revoke ", "header\n", 0, 1, -1, True, False, b"revoke", [], ["revoke"], (), ("revoke",),
    ("revoke", "cancel"), {}, {"revoke": 1}, {"revoke"}, object(), AlwaysEqual(),
)

# Everything here is no path.
NO_PATHS = (
    None, True, 0, 1, "", "a", "a/b", " ", "//", "///", "/a/", "//a", "/a//b", "a/", "/A", "/a1", "/1", "/a b", "/ a",
    " /a", "/a ", "/a\n", "\n/a", "/.", "/..", "/a.b", "/-", "/_", "/\u00e4", "/a\u0131", "/`", "/{", "/@",
    "/abcdefghi", "/a/abcdefghi", "/abcdefghi/a", "\\a", b"/", b"/a", [], ["/a"], (), ("/a",), ("/", "a"), {},
    {"/a": 1}, {"/a"}, object(), AlwaysEqual(),
)

# Everything here is no value of a block.
NO_VALUES = (
    None, True, False, b"a", [], [1], {}, {"a": 1}, {1}, object(), range(2),
    (None,), (True,), (1, False), ("a", [1]), (1, ("a", (True,))), ((), {}), (1, (2, [])),
)


def nested(deep):
    """A tuple that is nested so deep; () is one deep."""
    value = ()
    for _ in range(deep - 1):
        value = (value,)
    return value


def state(disk):
    """All that a disk shows of itself."""
    newest = [disk.read(block) for block in range(disk.blocks())]
    # Copies, so that a list of the disk's own would not change along with it.
    return disk.blocks(), newest, list(disk.durable()), list(disk.pending()), list(disk.events())


def raised(test, error_class, call, *args, **named):
    """The error that the call raises: of this very class."""
    with test.assertRaises(error_class) as caught:
        call(*args, **named)
    test.assertIs(caught.exception.__class__, error_class)
    return caught.exception


def new_journal(slots=8, homes=4, without=None):
    layout = Layout(slots, homes)
    return Journal(layout, new_disk(layout), without=without)


def journal_state(journal):
    """All that a journal and its disk show of themselves, as copies."""
    values = [journal.value(home) for home in range(journal.plan.homes())]
    shown = (journal.running(), journal.kept(), journal.numbers(), journal.free_slots(), values, needed(journal))
    return deepcopy(shown), state(journal.medium)


def store_state(store):
    """All that a store, its journal and its disk show of themselves, as copies."""
    return deepcopy(store.tree()), journal_state(store.journal())


def place(layout, disk, slot, records):
    """Writes records to the slots from this one on, round the ring."""
    for step, record in enumerate(records):
        disk.write(layout.slot_block((slot + step) % layout.slots()), record)


def slot_writes(layout, slot, records):
    """The events of writing records to the slots from this one on, round the ring."""
    blocks = [layout.slot_block((slot + step) % layout.slots()) for step in range(len(records))]
    return [("write", block, record) for block, record in zip(blocks, records)]


def every_crash(disk, least=0):
    """Rows (many, kept, new disk) of each crash behind at least so many events of a disk."""
    for many in range(least, len(disk.events()) + 1):
        before = disk.after(many)
        for kept in crash_choices(before):
            yield many, kept, before.crashed(kept)


class PlainTree:
    """What a store holds: the values of each file, and None for each directory."""

    def __init__(self, rows=()):
        self.nodes = dict(rows)

    def do(self, step):
        """Does a step that raised no error on the store."""
        if step[0] == "make":
            self.nodes[step[1]] = None
        elif step[0] == "put":
            self.nodes[step[1]] = tuple(step[2])
        elif step[0] == "remove":
            del self.nodes[step[1]]
        elif step[0] == "move":
            path, goal = step[1:]
            for other in [other for other in self.nodes if (other + "/").startswith(path + "/")]:
                self.nodes[goal + other[len(path):]] = self.nodes.pop(other)

    def tree(self):
        return sorted(self.nodes.items())


class FalseDisk(Disk):
    """A disk of which some blocks are read otherwise than they were written."""

    def __init__(self, blocks, answers):
        Disk.__init__(self, blocks)
        self.answers = answers

    def read(self, block):
        return self.answers[block] if block in self.answers else Disk.read(self, block)


def spoil(made):
    """Changes all lists in a returned value, also those inside lists and tuples."""
    if isinstance(made, (list, tuple)):
        for part in made:
            spoil(part)
    if isinstance(made, list):
        made.reverse()
        made.append("more")
        made[0] = "other"


FLUSH = ("flush",)
