"""The errors of the package, one class for each kind of failure."""


class LogError(ValueError):
    """The base of all errors; `why` is a short text."""

    def __init__(self, why):
        ValueError.__init__(self, why)
        self.why = why


class BadLayout(LogError):
    """A layout has an invalid number of slots or homes."""

    def __init__(self, why):
        LogError.__init__(self, why)


class BadBlock(LogError):
    """A value is not a block, slot or home, or not the list of such that was asked for."""

    def __init__(self, block):
        LogError.__init__(self, "not a valid block, slot or home")
        self.block = block


class BadValue(LogError):
    """A value cannot be held where it stands or was to be written."""

    def __init__(self, why="not a valid value"):
        LogError.__init__(self, why)


class BadCount(LogError):
    """A value is not an integer, or is outside the range that was asked for."""

    def __init__(self, count):
        LogError.__init__(self, "not an integer in the range asked for")
        self.count = count


class BadChoice(LogError):
    """A list of kept writes is invalid at an index, or None if it is no list."""

    def __init__(self, at):
        LogError.__init__(self, "not a choice of the pending writes")
        self.at = at


class TooMany(LogError):
    """There are more pending writes than the limit."""

    def __init__(self, limit):
        LogError.__init__(self, "more pending writes than the limit")
        self.limit = limit


class NoSpace(LogError):
    """A transaction has more records than the log has free slots."""

    def __init__(self, needed, free):
        LogError.__init__(self, "more records than free slots")
        self.needed = needed
        self.free = free


class BadPath(LogError):
    """A value is not a path, or not one that may stand here."""

    def __init__(self, path):
        LogError.__init__(self, "not a path that may stand here")
        self.path = path


class NoEntry(LogError):
    """What a path should lead to is not there."""

    def __init__(self, path):
        LogError.__init__(self, "nothing of this kind at the path")
        self.path = path


class HasEntry(LogError):
    """Something is at a path already."""

    def __init__(self, path):
        LogError.__init__(self, "something at the path already")
        self.path = path


class NotEmpty(LogError):
    """A directory still has entries."""

    def __init__(self, path):
        LogError.__init__(self, "the directory is not empty")
        self.path = path


class NoRoom(LogError):
    """There are fewer free homes than are needed."""

    def __init__(self, needed, free):
        LogError.__init__(self, "fewer free homes than needed")
        self.needed = needed
        self.free = free


class BadRule(LogError):
    """A value is not the name of a rule."""

    def __init__(self, rule):
        LogError.__init__(self, "not the name of a rule")
        self.rule = rule


class BadStep(LogError):
    """A list of steps is invalid at an index, or None if it is no list."""

    def __init__(self, at):
        LogError.__init__(self, "not a list of steps")
        self.at = at
