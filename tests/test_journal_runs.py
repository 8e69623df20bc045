"""Drawn steps on journals against a plain record: points 3.2 to 3.5, 5.1, 8.1 and 9.1."""

import unittest
from random import Random

from revokelog.errors import NoSpace
from revokelog.journals import RULES, needed
from revokelog.records import records_of, transaction_at
from support import FLUSH, new_journal, raised, slot_writes


class Record:
    """What is known of a journal: what was asked of it, and what it committed."""

    def __init__(self, slots, homes, rule):
        self.slots, self.homes, self.rule = slots, homes, rule
        self.asked = []
        self.committed = []
        self.dropped = 0
        self.head = 0
        self.events = [("write", 0, ("tail", 1, 0)), FLUSH]

    def last_asked(self, word, home):
        places = [at for at, step in enumerate(self.asked) if step[:2] == (word, home)]
        return max(places, default=-1)

    def running(self):
        copies, revokes = [], []
        for home in range(self.homes):
            logged, revoked = self.last_asked("log", home), self.last_asked("revoke", home)
            if logged > revoked or (logged >= 0 and self.rule == "drop"):
                copies.append((home, self.asked[logged][2]))
            if revoked > logged or (revoked >= 0 and self.rule == "cancel"):
                revokes.append(home)
        return copies, revokes

    def kept(self):
        kept = []
        for at in range(self.dropped, len(self.committed)):
            homes = dict(self.committed[at]["copies"])
            for later in self.committed[at + 1:]:
                if self.rule != "forget":
                    for home in later["gone"]:
                        homes.pop(home, None)
            kept.append((at + 1, sorted(homes)))
        return kept

    def numbers(self):
        return self.dropped + 1, len(self.committed) + 1

    def free_slots(self):
        return self.slots - sum(len(one["records"]) for one in self.committed[self.dropped:])

    def replayed(self):
        """The homes that replay of the kept transactions writes."""
        log = self.committed[self.dropped:]
        written = set()
        for at, one in enumerate(log):
            for home, _ in one["copies"]:
                if not any(home in later["revokes"] for later in log[at:]):
                    written.add(home)
        return written

    def needed(self):
        return [home for home in self.running()[1] if home in self.replayed()]

    def value(self, home):
        running = dict(self.running()[0])
        if home in running:
            return running[home]
        for number, homes in reversed(self.kept()):
            if home in homes:
                return dict(self.committed[number - 1]["copies"])[home]
        block = 1 + self.slots + home
        return [0, *[event[2] for event in self.events if event[:2] == ("write", block)]][-1]

    def commit(self, layout):
        copies, revoked = self.running()
        revokes = [] if self.rule == "revoke" else self.needed()
        records = records_of(len(self.committed) + 1, copies, revokes)
        self.committed.append({
            "copies": copies, "revokes": revokes, "records": records, "slot": self.head,
            "gone": [home for home, _ in copies] + revoked,
        })
        written = slot_writes(layout, self.head, records)
        self.events += [*written[:-1], *[FLUSH] * (self.rule != "commit")]
        self.events += [written[-1], *[FLUSH] * (self.rule != "settle")]
        self.head = (self.head + len(records)) % self.slots
        self.asked = []

    def checkpoint(self):
        kept = self.kept()
        copies = dict(self.committed[self.dropped]["copies"])
        self.events += [("write", 1 + self.slots + home, copies[home]) for home in kept[0][1]]
        self.events += [FLUSH] * (self.rule != "tail")
        many = 1
        while many < len(kept) and kept[many][1] == []:
            many += 1
        self.dropped += many
        left = self.committed[self.dropped:]
        slot = left[0]["slot"] if left else self.head
        self.events += [("write", 0, ("tail", self.dropped + 1, slot)), *[FLUSH] * (self.rule != "header")]
        return many


class DrawnTest(unittest.TestCase):
    def check(self, journal, record):
        shown = (
            journal.running(), journal.kept(), journal.numbers(), journal.free_slots(),
            [journal.value(home) for home in range(record.homes)], needed(journal), journal.medium.events(),
        )
        self.assertEqual(shown, (
            record.running(), record.kept(), record.numbers(), record.free_slots(),
            [record.value(home) for home in range(record.homes)], record.needed(), record.events,
        ))

    def check_log(self, journal, record):
        """All kept transactions are read back from the disk as they were committed."""
        for at in range(record.dropped, len(record.committed)):
            one = record.committed[at]
            after = (one["slot"] + len(one["records"])) % record.slots
            found = transaction_at(journal.plan, journal.medium, at + 1, one["slot"])
            self.assertEqual(found, (one["copies"], one["revokes"], after))

    def commit(self, journal, record):
        copies, revoked = record.running()
        if not copies and not revoked:
            self.assertIsNone(journal.commit())
            return "empty"
        many = len(records_of(1, copies, [] if record.rule == "revoke" else record.needed()))
        free = record.free_slots()
        if many > free:
            error = raised(self, NoSpace, journal.commit)
            self.assertEqual((error.needed, error.free), (many, free))
            return "full"
        record.commit(journal.plan)
        self.assertEqual(journal.commit(), len(record.committed))
        self.check_log(journal, record)
        return "done"

    def checkpoint(self, journal, record):
        if record.dropped == len(record.committed):
            self.assertEqual(journal.checkpoint(), 0)
            return "nothing"
        self.assertEqual(journal.checkpoint(), record.checkpoint())
        self.check_log(journal, record)
        return "dropped"

    def step(self, random, journal, record):
        word = random.choices(("log", "revoke", "data", "commit", "checkpoint"), (8, 6, 2, 4, 2))[0]
        home = random.randrange(record.homes)
        value = random.choice((random.randrange(100), f"text {random.randrange(100)}", (random.randrange(9), ())))
        if word == "commit":
            return self.commit(journal, record)
        if word == "checkpoint":
            return self.checkpoint(journal, record)
        if word == "data":
            # As a store does it: past the journal, to a home of which the log knows nothing.
            block = journal.plan.home_block(home)
            journal.medium.write(block, value)
            record.events.append(("write", block, value))
        elif word == "log":
            journal.log(home, value)
            record.asked.append(("log", home, value))
        else:
            journal.revoke(home)
            record.asked.append(("revoke", home))
        return word

    def run_one(self, seed, rule):
        random = Random(f"{seed} {rule}")
        slots, homes = random.choice(((8, 4), (12, 4), (16, 6), (64, 12)))
        journal = new_journal(slots, homes, rule)
        record = Record(slots, homes, rule)
        seen = set()
        for _ in range(120):
            seen.add(self.step(random, journal, record))
            self.check(journal, record)
        return seen

    def test_with_all_rules(self):
        seen = set()
        for seed in range(12):
            seen |= self.run_one(seed, None)
        self.assertEqual(seen, {"log", "revoke", "data", "empty", "full", "done", "nothing", "dropped"})

    def test_without_each_rule(self):
        for rule in RULES:
            for seed in range(4):
                with self.subTest(rule, seed=seed):
                    self.run_one(seed, rule)


if __name__ == "__main__":
    unittest.main()
