"""A store of directories and files in the homes of a disk."""

from revokelog.directories import (
    DATA, DIRECTORY, FREE, MAP_HOME, ROOT_ENTRY, ROOT_HOME, entry_named, first_map, free_in, homes_of, is_file,
    is_folder, tree_of, values_of, with_entry, without_entry,
)
from revokelog.disks import DEEPEST_VALUE
from revokelog.errors import BadPath, BadValue, HasEntry, NoEntry, NoRoom, NotEmpty
from revokelog.journals import Journal
from revokelog.layouts import new_disk
from revokelog.paths import ROOT, is_below, is_path, last_name, parents_of
from revokelog.values import is_value

MOST_VALUES = 6


class Store:
    """Directories, which are logged, and files, whose data is written to its homes at once."""

    def __init__(self, layout, *, without=None):
        self._begin(Journal(layout, new_disk(layout), without=without))
        self._journal.log(MAP_HOME, first_map(layout.homes()))
        self._journal.log(ROOT_HOME, ())
        self.commit()
        self.checkpoint()

    def _begin(self, journal):
        self._journal = journal
        self._committed_map = journal.value(MAP_HOME)

    def layout(self):
        return self._journal.plan

    def disk(self):
        return self._journal.medium

    def journal(self):
        return self._journal

    def make(self, path):
        """Adds an empty directory."""
        _check_path(path)
        if self._find(path) is not None:
            raise HasEntry(path)
        free = free_in(self._journal.value(MAP_HOME))
        if not free:
            raise NoRoom(1, 0)
        home = free[0]
        self._mark({home: DIRECTORY})
        self._journal.log(home, ())
        self._set_entry(path, "dir", home)

    def put(self, path, values):
        """Adds a file, or replaces one."""
        _check_path(path)
        _check_values(values)
        entry = self._find(path)
        if is_folder(entry):
            raise HasEntry(path)
        free = self._free_for_data()
        if len(free) < len(values):
            raise NoRoom(len(values), len(free))
        homes = free[:len(values)]
        self._write_data(homes, values)
        changes = {home: DATA for home in homes}
        if entry is not None:
            changes.update({home: FREE for home in homes_of(entry)})
        self._mark(changes)
        self._set_entry(path, "file", tuple(homes))

    def remove(self, path):
        """Removes a file or an empty directory."""
        _check_path(path)
        _check_not_root(path)
        entry = self._find_some(path)
        if is_folder(entry) and self._journal.value(entry[2]) != ():
            raise NotEmpty(path)
        self._mark({home: FREE for home in homes_of(entry)})
        self._delete_entry(path)
        if is_folder(entry):
            self._journal.revoke(entry[2])

    def move(self, path, goal):
        """Gives a file or a directory another path."""
        _check_path(path)
        _check_not_root(path)
        _check_path(goal)
        if is_below(goal, path):
            raise BadPath(goal)
        entry = self._find_some(path)
        if self._find(goal) is not None:
            raise HasEntry(goal)
        self._delete_entry(path)
        self._set_entry(goal, entry[1], entry[2])

    def names(self, path):
        """The names in a directory, ascending."""
        _check_path(path)
        entry = self._find(path)
        if not is_folder(entry):
            raise NoEntry(path)
        return [held[0] for held in self._journal.value(entry[2])]

    def get(self, path):
        """The values of a file."""
        _check_path(path)
        entry = self._find(path)
        if not is_file(entry):
            raise NoEntry(path)
        return values_of(self._journal, entry)

    def tree(self):
        """The rows (path, content) of all but the root, or None if the homes hold no store."""
        return tree_of(self._journal)

    def commit(self):
        number = self._journal.commit()
        if number is not None:
            self._committed_map = self._journal.value(MAP_HOME)
        return number

    def checkpoint(self):
        return self._journal.checkpoint()

    def _holder(self, path):
        """The home of the directory that holds a path, or of the root for the root."""
        home = ROOT_HOME
        for parent in parents_of(path)[1:]:
            entry = entry_named(self._journal.value(home), last_name(parent))
            if not is_folder(entry):
                raise NoEntry(parent)
            home = entry[2]
        return home

    def _find(self, path):
        """The entry at a path, or None; the error is for the parents alone."""
        if path == ROOT:
            return ROOT_ENTRY
        return entry_named(self._journal.value(self._holder(path)), last_name(path))

    def _find_some(self, path):
        entry = self._find(path)
        if entry is None:
            raise NoEntry(path)
        return entry

    def _set_entry(self, path, word, place):
        home = self._holder(path)
        entry = (last_name(path), word, place)
        self._journal.log(home, with_entry(self._journal.value(home), entry))

    def _delete_entry(self, path):
        home = self._holder(path)
        self._journal.log(home, without_entry(self._journal.value(home), last_name(path)))

    def _mark(self, changes):
        """Logs the map with the new marks of some homes, if there are any."""
        if not changes:
            return
        marks = list(self._journal.value(MAP_HOME))
        for home, mark in changes.items():
            marks[home] = mark
        self._journal.log(MAP_HOME, tuple(marks))

    def _free_for_data(self):
        free = free_in(self._journal.value(MAP_HOME))
        if self._journal.without == "reuse":
            return free
        # A crash may bring back the last commit, so what it uses is not overwritten.
        return [home for home in free if self._committed_map[home] == FREE]

    def _write_data(self, homes, values):
        layout = self._journal.plan
        for home, value in zip(homes, values):
            self._journal.medium.write(layout.home_block(home), value)


def store_on(journal):
    """The store of which the homes of a journal tell."""
    # Making a store makes a disk of its own, which is left behind here.
    store = Store(journal.plan)
    store._begin(journal)
    return store


def _check_path(path):
    if not is_path(path):
        raise BadPath(path)


def _check_not_root(path):
    if path == ROOT:
        raise BadPath(path)


def _check_values(values):
    if not isinstance(values, (list, tuple)) or len(values) > MOST_VALUES:
        raise BadValue("values")
    for value in values:
        if not is_value(value, DEEPEST_VALUE):
            raise BadValue("values")
