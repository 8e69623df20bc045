"""The map and the directories of a store, as values of its homes."""

from revokelog.paths import is_name
from revokelog.values import is_between, is_integer

MAP_HOME = 0
ROOT_HOME = 1

FREE = 0
DIRECTORY = 1
DATA = 2

ROOT_ENTRY = ("", "dir", 1)


def first_map(homes):
    """The map of a store that holds nothing but its root."""
    return tuple([DIRECTORY if home <= ROOT_HOME else FREE for home in range(homes)])


def free_in(marks):
    """The homes that a map marks as free, ascending."""
    return [home for home, mark in enumerate(marks) if mark == FREE]


def is_map(thing, homes):
    if not isinstance(thing, tuple) or len(thing) != homes:
        return False
    if thing[MAP_HOME] != DIRECTORY or thing[ROOT_HOME] != DIRECTORY:
        return False
    return all([is_between(mark, FREE, DATA) for mark in thing])


def is_directory(thing):
    """Whether a thing is a tuple of entries, ascending by name, each name once."""
    if not isinstance(thing, tuple):
        return False
    before = ""
    for entry in thing:
        if not _is_entry(entry) or entry[0] <= before:
            return False
        before = entry[0]
    return True


def _is_entry(thing):
    if not isinstance(thing, tuple) or len(thing) != 3 or not is_name(thing[0]):
        return False
    if thing[1] == "dir":
        return is_integer(thing[2])
    return thing[1] == "file" and isinstance(thing[2], tuple) and all([is_integer(home) for home in thing[2]])


def is_folder(entry):
    """Whether an entry is there, and is that of a directory."""
    return entry is not None and entry[1] == "dir"


def is_file(entry):
    """Whether an entry is there, and is that of a file."""
    return entry is not None and entry[1] == "file"


def homes_of(entry):
    """The homes that an entry uses."""
    if is_file(entry):
        return entry[2]
    return (entry[2],)


def entry_named(directory, name):
    """The entry of this name, or None."""
    for entry in directory:
        if entry[0] == name:
            return entry
    return None


def without_entry(directory, name):
    return tuple([entry for entry in directory if entry[0] != name])


def with_entry(directory, entry):
    """The directory with this entry, in the place of one of the same name if there is one."""
    entries = list(without_entry(directory, entry[0])) + [entry]
    return tuple(sorted(entries, key=lambda row: row[0]))


def values_of(journal, entry):
    """The values of a file, as the disk has them now."""
    # Not as the journal has them: the data of files is never logged.
    blocks = [journal.plan.home_block(home) for home in entry[2]]
    return tuple([journal.medium.read(block) for block in blocks])


def tree_of(journal):
    """The rows (path, content) of all but the root, or None if the homes hold no store."""
    marks = journal.value(MAP_HOME)
    if not is_map(marks, journal.plan.homes()):
        return None
    # Each entry takes its homes from those that are left, so none can be used
    # twice, and what is left at the end is used by nothing.
    left = {home: mark for home, mark in enumerate(marks) if home > ROOT_HOME and mark != FREE}
    rows = []
    if not _collect(journal, ROOT_ENTRY, "", left, rows) or left:
        return None
    return rows


def _collect(journal, folder, path, left, rows):
    """Adds the rows of all below a directory; False if something there is not as it must be."""
    directory = journal.value(folder[2])
    if not is_directory(directory):
        return False
    for entry in directory:
        if not _take_homes(entry, left):
            return False
        # A directory stands ahead of what is in it, so the rows ascend by path.
        below = path + "/" + entry[0]
        if is_file(entry):
            rows.append((below, values_of(journal, entry)))
        else:
            rows.append((below, None))
            if not _collect(journal, entry, below, left, rows):
                return False
    return True


def _take_homes(entry, left):
    mark = DATA if is_file(entry) else DIRECTORY
    for home in homes_of(entry):
        if left.pop(home, FREE) != mark:
            return False
    return True
