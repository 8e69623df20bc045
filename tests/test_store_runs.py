"""Drawn steps on stores against a plain record: points 6.1 to 6.8 and 8.1."""

import unittest
from random import Random

from revokelog.errors import BadPath, BadValue, HasEntry, LogError, NoEntry, NoRoom, NotEmpty
from revokelog.journals import RULES, Journal
from revokelog.layouts import Layout, new_disk
from revokelog.stores import Store
from support import FLUSH, journal_state

PATHS = (
    "/a", "/b", "/c", "/ab", "/a/a", "/a/b", "/b/a", "/b/f", "/c/f", "/a/a/a", "/a/b/f", "/b/a/ab", "/ab/a/b/c",
)
WRONG = ("", "/", "a", "/a/", "/A", "//", "/abcdefghi", None, 3, True, ["/a"])


class Record:
    """The paths of a store with the homes of each, and a journal that is told what a store must log."""

    def __init__(self, layout, rule):
        self.layout, self.rule = layout, rule
        self.journal = Journal(layout, new_disk(layout), without=rule)
        self.nodes = {"/": 1}
        self.values = {}
        self.journal.log(0, self.marks())
        self.journal.log(1, ())
        self.commit()
        self.checkpoint()

    def is_folder(self, path):
        return isinstance(self.nodes.get(path), int)

    def holder(self, path):
        return path[:path.rindex("/")] or "/"

    def marks(self):
        marks = [1, 1] + [0] * (self.layout.homes() - 2)
        for place in self.nodes.values():
            if isinstance(place, int):
                marks[place] = 1
            else:
                for home in place:
                    marks[home] = 2
        return tuple(marks)

    def free(self):
        return [home for home, mark in enumerate(self.marks()) if mark == 0]

    def log_folder(self, path):
        held = [other for other in self.nodes if other != "/" and self.holder(other) == path]
        entries = []
        for other in held:
            place = self.nodes[other]
            entries.append((other[other.rindex("/") + 1:], "dir" if isinstance(place, int) else "file", place))
        self.journal.log(self.nodes[path], tuple(sorted(entries)))

    def check_path(self, path):
        names = path.split("/") if isinstance(path, str) else [None]
        if path == "/":
            return
        if names[0] != "" or len(names) < 2:
            raise BadPath(path)
        for name in names[1:]:
            if not (1 <= len(name) <= 8 and name.isascii() and name.isalpha() and name.islower()):
                raise BadPath(path)

    def check_parents(self, path):
        for at in range(1, len(path)):
            if path[at] == "/" and not self.is_folder(path[:at]):
                raise NoEntry(path[:at])

    def check_there(self, path):
        self.check_parents(path)
        if path not in self.nodes:
            raise NoEntry(path)

    def check_not_root(self, path):
        self.check_path(path)
        if path == "/":
            raise BadPath(path)

    def make(self, path):
        self.check_path(path)
        self.check_parents(path)
        if path in self.nodes:
            raise HasEntry(path)
        if not self.free():
            raise NoRoom(1, 0)
        self.nodes[path] = self.free()[0]
        self.journal.log(0, self.marks())
        self.log_folder(path)
        self.log_folder(self.holder(path))

    def put(self, path, values):
        self.check_path(path)
        if len(values) > 6 or None in values:
            raise BadValue("values")
        self.check_parents(path)
        if self.is_folder(path):
            raise HasEntry(path)
        free = [home for home in self.free() if self.rule == "reuse" or home in self.settled]
        if len(free) < len(values):
            raise NoRoom(len(values), len(free))
        old = self.nodes.get(path, ())
        self.nodes[path] = tuple(free[:len(values)])
        self.values[path] = tuple(values)
        for home, value in zip(free, values):
            self.journal.medium.write(self.layout.home_block(home), value)
        if old or values:
            self.journal.log(0, self.marks())
        self.log_folder(self.holder(path))

    def remove(self, path):
        self.check_not_root(path)
        self.check_there(path)
        if self.is_folder(path) and any(other.startswith(path + "/") for other in self.nodes):
            raise NotEmpty(path)
        place = self.nodes.pop(path)
        self.values.pop(path, None)
        if place != ():
            self.journal.log(0, self.marks())
        self.log_folder(self.holder(path))
        if isinstance(place, int):
            self.journal.revoke(place)

    def move(self, path, goal):
        self.check_not_root(path)
        self.check_path(goal)
        if goal.startswith(path + "/"):
            raise BadPath(goal)
        self.check_there(path)
        self.check_parents(goal)
        if goal in self.nodes:
            raise HasEntry(goal)
        for table in (self.nodes, self.values):
            for other in [other for other in table if other == path or other.startswith(path + "/")]:
                table[goal + other[len(path):]] = table.pop(other)
        self.log_folder(self.holder(path))
        self.log_folder(self.holder(goal))

    def names(self, path):
        self.check_path(path)
        self.check_parents(path)
        if not self.is_folder(path):
            raise NoEntry(path)
        held = [other for other in self.nodes if other != "/" and self.holder(other) == path]
        return sorted(other[other.rindex("/") + 1:] for other in held)

    def read(self, path):
        return tuple(self.journal.medium.read(self.layout.home_block(home)) for home in self.nodes[path])

    def get(self, path):
        self.check_path(path)
        self.check_parents(path)
        if path not in self.nodes or self.is_folder(path):
            raise NoEntry(path)
        return self.read(path)

    def tree(self):
        paths = sorted(path for path in self.nodes if path != "/")
        return [(path, None if self.is_folder(path) else self.read(path)) for path in paths]

    def commit(self):
        number = self.journal.commit()
        if number is not None:
            self.settled = self.free()
        return number

    def checkpoint(self):
        return self.journal.checkpoint()


def outcome(thing, step):
    """What a call returns, or the class and the fields of the error that it raises."""
    try:
        return "returns", getattr(thing, step[0])(*step[1:])
    except LogError as error:
        return type(error).__name__, vars(error)


def drawn_step(random):
    path, goal = random.choice(PATHS), random.choice(PATHS)
    if random.random() < 0.05:
        path = random.choice(WRONG)
    if random.random() < 0.05:
        goal = random.choice(WRONG)
    word = random.choices(
        ("make", "put", "remove", "move", "names", "get", "commit", "checkpoint"), (6, 6, 5, 2, 1, 1, 4, 2))[0]
    if word == "put":
        values = [random.choice((random.randrange(99), "text", (1, ()))) for _ in range(random.randrange(5))]
        if random.random() < 0.05:
            values = random.choice(([1] * 7, [None], (1, 2)))
        return word, path, values
    if word == "move":
        return word, path, goal
    return (word,) if word in ("commit", "checkpoint") else (word, path)


class DrawnTest(unittest.TestCase):
    def run_one(self, seed, rule):
        """The outcomes' words of drawn steps, each of them compared."""
        random = Random(f"{seed} {rule}")
        layout = Layout(*random.choice(((8, 6), (16, 6), (20, 8), (64, 20))))
        store, record = Store(layout, without=rule), Record(layout, rule)
        seen = set()
        for _ in range(150):
            step = drawn_step(random)
            found = outcome(store, step)
            self.assertEqual(found, outcome(record, step), step)
            self.assertEqual(store.tree(), record.tree(), step)
            self.assertEqual(journal_state(store.journal()), journal_state(record.journal), step)
            if rule is None:
                # With all rules, nothing ever overwrites the data of a file.
                self.assertEqual([row for row in store.tree() if row[1] is not None], sorted(record.values.items()))
            seen.add(found[0])
        return seen

    def test_a_new_store(self):
        layout = Layout(16, 6)
        store, record = Store(layout), Record(layout, None)
        self.assertEqual(journal_state(store.journal()), journal_state(record.journal))
        self.assertEqual(record.journal.medium.events()[-1], FLUSH)

    def test_with_all_rules(self):
        seen = set()
        for seed in range(12):
            seen |= self.run_one(seed, None)
        self.assertEqual(seen, {
            "returns", "BadPath", "BadValue", "NoEntry", "HasEntry", "NotEmpty", "NoRoom", "NoSpace",
        })

    def test_without_each_rule(self):
        for rule in RULES:
            for seed in range(3):
                with self.subTest(rule, seed=seed):
                    self.run_one(seed, rule)


if __name__ == "__main__":
    unittest.main()
