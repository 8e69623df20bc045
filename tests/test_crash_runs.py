"""Drawn steps and crashes, one behind the other, against plain trees: points 0.4, 4.1, 7.5 and 9.1."""

import unittest
from random import Random

from revokelog.crashes import all_crashes, crashed_store, last_committed
from revokelog.disks import crash_choices
from revokelog.errors import TooMany
from revokelog.journals import needed
from revokelog.layouts import Layout
from revokelog.records import slots_needed, transaction_at
from revokelog.recovery import replay, scan
from revokelog.runs import run
from revokelog.stores import Store
from support import PlainTree, raised, store_state

PATHS = ("/a", "/b", "/c", "/f", "/g", "/a/a", "/a/f", "/b/a", "/b/f", "/a/a/f", "/a/a/a")
LAYOUTS = ((8, 4), (8, 5), (9, 7), (12, 6), (16, 6), (20, 10), (64, 12), (64, 32))
VALUES = (0, 7, "x", "", (), ("tail", 1, 0), ("commit", 99), (1, 1, 0, 0), (("a", "dir", 2),))

# So many events of a new store make transaction 1 durable.
FIRST_EVENTS = 8


def drawn_step(random):
    path, goal = random.choice(PATHS), random.choice(PATHS)
    values = [random.choice(VALUES) for _ in range(random.choice((0, 1, 1, 2, 3)))]
    return random.choices(
        (("make", path), ("put", path, values), ("remove", path), ("move", path, goal), ("commit",), ("checkpoint",)),
        (5, 5, 5, 2, 5, 4),
    )[0]


class Life:
    """A store, and a plain record of its trees and of the commits on its disk."""

    def __init__(self, test, store, number, trees, least=0):
        self.test, self.store, self.least = test, store, least
        self.trees = trees
        self.plain = PlainTree(trees[number])
        # Each commit with the number of events at which it had returned.
        self.commits = [(number, least)]

    def step(self, step):
        store = self.store
        homes = self.expected_revokes()
        slot = self.head()
        result, count = run(store, [step])[0]
        if not isinstance(result, str):
            self.plain.do(step)
        if step == ("commit",) and isinstance(result, int):
            self.trees[result] = self.plain.tree()
            self.commits.append((result, count))
            found = transaction_at(store.layout(), store.disk(), result, slot)
            self.test.assertEqual(found[1], homes)
        self.test.assertEqual(store.tree(), self.plain.tree())
        self.test.assertEqual(store.disk().events()[count:], [])
        self.check_log()
        return result

    def head(self):
        """The slot behind the transactions in the log."""
        layout, disk = self.store.layout(), self.store.disk()
        log = scan(layout, disk)
        return (disk.read(0)[2] + sum(slots_needed(*one[1:]) for one in log)) % layout.slots()

    def expected_revokes(self):
        """The running revoked homes that recovery would write."""
        written = [home for home, _ in replay(scan(self.store.layout(), self.store.disk()))]
        return [home for home in self.store.journal().running()[1] if home in written]

    def check_log(self):
        """The log holds the kept transactions and nothing else, and the needed revokes are those of replay."""
        log = scan(self.store.layout(), self.store.disk())
        journal = self.store.journal()
        self.test.assertEqual([one[0] for one in log], [one[0] for one in journal.kept()])
        self.test.assertEqual(needed(journal), self.expected_revokes())
        self.test.assertEqual(last_committed(self.store.layout(), self.store.disk()), self.commits[-1][0])

    def number_at(self, many, kept):
        """The number of the last commit that has returned, or whose record is kept although it has not."""
        return [number for number, count in self.commits if count <= many or (count == many + 1 and kept == [0])][-1]

    def drawn_crash(self, random):
        """Where to crash, and which of the pending writes to keep."""
        events = len(self.store.disk().events())
        least = self.least
        many = random.choice((random.randint(least, events), max(least, events - random.randrange(9)), None))
        waiting = len((self.store.disk() if many is None else self.store.disk().after(many)).pending())
        return many, [at for at in range(waiting) if random.random() < 0.5]


class CrashTest(unittest.TestCase):
    """7.5: any number of crashes, one behind the other."""

    def crash(self, random, life):
        """The life of the store that is opened after a crash, checked against the record."""
        many, kept = life.drawn_crash(random)
        events = len(life.store.disk().events())
        before = store_state(life.store)
        opened = crashed_store(life.store, kept, many=many)
        self.assertEqual(store_state(life.store), before)
        number = life.number_at(events if many is None else many, kept)
        self.assertEqual(opened.tree(), life.trees[number])
        self.assertEqual(last_committed(opened.layout(), opened.disk()), number)
        self.assertEqual(opened.journal().numbers(), (number + 1, number + 1))
        trees = {other: tree for other, tree in life.trees.items() if other <= number}
        return Life(self, opened, number, trees)

    def check_all_crashes(self, random, life):
        """all_crashes returns the trees of the record."""
        many, _ = life.drawn_crash(random)
        events = len(life.store.disk().events())
        disk = life.store.disk() if many is None else life.store.disk().after(many)
        if len(disk.pending()) > 10:
            self.assertEqual(raised(self, TooMany, all_crashes, life.store, many=many).limit, 10)
            return
        rows = []
        for kept in crash_choices(disk):
            number = life.number_at(events if many is None else many, kept)
            rows += [(number, life.trees[number])] if (number, life.trees[number]) not in rows else []
        self.assertEqual(all_crashes(life.store, many=many), rows)

    def run_one(self, seed, steps, crashes):
        """The results of drawn steps with drawn crashes between them."""
        random = Random(f"crash {seed}")
        layout = Layout(*random.choice(LAYOUTS))
        life = Life(self, Store(layout), 1, {1: []}, FIRST_EVENTS)
        seen = set()
        for _ in range(crashes):
            for _ in range(random.randrange(steps)):
                result = life.step(drawn_step(random))
                seen.add(result if isinstance(result, str) else type(result))
            if random.random() < 0.2:
                self.check_all_crashes(random, life)
            life = self.crash(random, life)
            # Now and then also during recovery, and during recovery from that.
            while random.random() < 0.3:
                life = self.crash(random, life)
        return seen

    def test_drawn_lives(self):
        seen = set()
        for seed in range(60):
            with self.subTest(seed):
                seen |= self.run_one(seed, 30, 8)
        self.assertEqual(seen, {type(None), int, "NoEntry", "HasEntry", "NotEmpty", "NoRoom", "NoSpace", "BadPath"})

    def test_a_long_life_on_a_small_ring(self):
        random = Random("long")
        life = Life(self, Store(Layout(8, 4)), 1, {1: []}, FIRST_EVENTS)
        for _ in range(1000):
            life.step(drawn_step(random))
            if random.random() < 0.05:
                life = self.crash(random, life)
        self.assertGreater(life.commits[-1][0], 20)

    def test_every_choice_of_drawn_lives(self):
        for seed in range(12):
            random = Random(f"every {seed}")
            store = Store(Layout(*random.choice(LAYOUTS[:6])))
            life = Life(self, store, 1, {1: []}, FIRST_EVENTS)
            for _ in range(12):
                life.step(drawn_step(random))
            for many in range(FIRST_EVENTS, len(life.store.disk().events()) + 1):
                disk = life.store.disk().after(many)
                for kept in crash_choices(disk) if len(disk.pending()) <= 6 else ([], [0], [1, 3], [6]):
                    number = life.number_at(many, kept)
                    opened = crashed_store(life.store, kept, many=many)
                    found = (last_committed(opened.layout(), opened.disk()), opened.tree())
                    self.assertEqual(found, (number, life.trees[number]))


if __name__ == "__main__":
    unittest.main()
