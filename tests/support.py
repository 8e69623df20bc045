"""What several test files need."""

# Everything here is no integer; some of it cannot be hashed, some is equal to one.
NO_INTEGERS = (None, True, False, "1", "", b"1", [], [1], (), (1,), {}, {1: 1}, {1}, object(), range(3))

# Everything here is no value of a block.
NO_VALUES = (
    None, True, False, b"a", [], [1], {}, {"a": 1}, {1}, object(), range(2),
    (None,), (True,), (1, False), ("a", [1]), (1, ("a", (True,))), ((), {}), (1, (2, [])),
)


def nested(deep):
    """A tuple that is nested so deep; () is one deep."""
    value = ()
    for _ in range(deep - 1):
        value = (value,)
    return value


def state(disk):
    """All that a disk shows of itself."""
    newest = [disk.read(block) for block in range(disk.blocks())]
    # Copies, so that a list of the disk's own would not change along with it.
    return disk.blocks(), newest, list(disk.durable()), list(disk.pending()), list(disk.events())


def raised(test, error_class, call, *args):
    """The error that the call raises: of this very class."""
    with test.assertRaises(error_class) as caught:
        call(*args)
    test.assertIs(caught.exception.__class__, error_class)
    return caught.exception
