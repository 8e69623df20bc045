"""Stage 8 of the document: points 8.1 to 8.4."""

import unittest
from copy import deepcopy
from random import Random

from revokelog.crashes import open_store
from revokelog.errors import BadRule, LogError
from revokelog.journals import RULES
from revokelog.layouts import Layout
from revokelog.rules import harm, shows_harm
from revokelog.stores import Store
from support import FLUSH, NO_INTEGERS, NO_RULES, AlwaysEqual, nested, raised, spoil

EXAMPLE = [("make", "/a"), ("commit",), ("checkpoint",), ("remove", "/a"), ("put", "/f", ("x",))]


class Judge:
    """Judges histories of the same steps by the words of 8.2."""

    def __init__(self, rule, slots, homes, steps):
        self.store = Store(Layout(slots, homes), without=rule)
        self.trees = {1: self.store.tree()}
        for step in steps:
            try:
                result = getattr(self.store, step[0])(*step[1:])
            except LogError:
                continue
            if step == ("commit",) and result is not None:
                self.trees[result] = self.store.tree()
        self.events = self.store.disk().events()

    def waiting(self, many):
        """The writes that are pending behind so many events."""
        return self.store.disk().after(many).pending()

    def is_valid(self, many, kept):
        return many <= len(self.events) and max(kept, default=-1) < len(self.waiting(many))

    def number(self, many, kept):
        last = self.store.layout().slots()
        there, waiting = [], []
        for event in self.events[:many]:
            if event == FLUSH:
                there, waiting = there + waiting, []
            else:
                waiting.append(event[1:])
        there += [waiting[at] for at in kept]
        return max((value[1] for block, value in there if 1 <= block <= last and value[0] == "commit"), default=None)

    def harms(self, many, kept):
        number = self.number(many, kept)
        if number is None:
            return False
        opened = open_store(self.store.layout(), self.store.disk().after(many).crashed(kept))
        return opened.tree() != self.trees[number]

    def choices(self, random, many):
        """Some choices of the pending writes."""
        waiting = len(self.waiting(many))
        drawn = [[at for at in range(waiting) if random.random() < 0.5] for _ in range(3)]
        return [[], list(range(waiting)), *[[at] for at in range(waiting)], *drawn]


class HarmTest(unittest.TestCase):
    """8.3"""

    def test_the_form(self):
        for rule in RULES:
            history = harm(rule)
            with self.subTest(rule):
                self.assertEqual([type(part) for part in history], [int, int, list, int, list])
                self.assertIs(type(history), tuple)
                slots, homes, steps, many, kept = history
                judge = Judge(rule, slots, homes, steps)
                self.assertLessEqual(many, len(judge.events))
                judge.store.disk().after(many).crashed(kept)
                self.assertLessEqual(len(steps), 60)
                self.assertTrue(all(type(step) is tuple for step in steps))

    def test_it_harms_a_store_without_the_rule(self):
        for rule in RULES:
            with self.subTest(rule):
                slots, homes, steps, many, kept = harm(rule)
                self.assertIs(Judge(rule, slots, homes, steps).harms(many, kept), True)
                self.assertIs(shows_harm(rule, harm(rule)), True)

    def test_each_history_is_about_its_rule_alone(self):
        for rule in RULES:
            found = [other for other in (None, *RULES) if shows_harm(other, harm(rule))]
            self.assertEqual(found, [rule])

    def test_equal_calls_return_equal_ones_of_their_own(self):
        for rule in RULES:
            first, second = harm(rule), harm(rule)
            expected = deepcopy(first)
            self.assertEqual(first, second)
            spoil(first)
            self.assertEqual((second, harm(rule)), (expected, expected))
            self.assertIs(shows_harm(rule, harm(rule)), True)

    def test_bad_rules(self):
        for rule in (None, *NO_RULES):
            with self.subTest(repr(rule)):
                self.assertIs(raised(self, BadRule, harm, rule).rule, rule)


class ShowsHarmTest(unittest.TestCase):
    """8.2 and 8.4"""

    def check(self, rule, history, judge=None):
        """The answer is as the test judges it, False if the history is not valid, and changes nothing."""
        slots, homes, steps, many, kept = history
        judge = judge or Judge(rule, slots, homes, steps)
        expected = judge.is_valid(many, kept) and judge.harms(many, kept)
        before = deepcopy(history)
        self.assertIs(shows_harm(rule, history), expected, (rule, history))
        self.assertEqual(history, before)
        return expected

    def check_all(self, random, slots, homes, steps, rules=(None, *RULES)):
        """Histories with these steps: each number of events, with some choices; the rules that are harmed."""
        seen = set()
        for rule in rules:
            judge = Judge(rule, slots, homes, steps)
            for many in range(len(judge.events) + 1):
                for kept in judge.choices(random, many):
                    if self.check(rule, (slots, homes, steps, many, kept), judge):
                        seen.add(rule)
        return seen

    def test_document_examples(self):
        self.assertIs(shows_harm("reuse", (32, 6, EXAMPLE, 27, [0])), True)
        self.assertIs(shows_harm(None, (32, 6, EXAMPLE, 27, [])), False)

    def test_near_the_document_example(self):
        for rule, many, kept, expected in (
            ("reuse", 27, [], False), ("reuse", 26, [], False), (None, 27, [0], False), ("tail", 27, [0], False),
            ("reuse", 28, [0], False), ("reuse", 27, [1], False), ("reuse", 27, [0, 0], False),
        ):
            self.assertIs(shows_harm(rule, (32, 6, EXAMPLE, many, kept)), expected)
        self.assertIs(shows_harm("reuse", (32, 6, (*EXAMPLE,), 27, [0])), False)
        self.assertIs(shows_harm("reuse", [32, 6, EXAMPLE, 27, [0]]), False)
        self.assertIs(shows_harm("reuse", (32, 6, EXAMPLE, 27, (0,))), False)
        self.assertIs(shows_harm("reuse", (32, 6, [*EXAMPLE, ("put", "/f", ("y",))], 27, [0])), True)
        self.assertIs(shows_harm("reuse", (64, 4, EXAMPLE, 27, [0])), True)

    def test_a_new_store(self):
        # Without one of these, transaction 1 may be taken for durable although its copies are lost.
        seen = self.check_all(Random("new"), 8, 4, [])
        self.assertEqual(seen, {"commit", "tail"})

    def test_every_event_of_each_history(self):
        for rule in RULES:
            slots, homes, steps, _, _ = harm(rule)
            random = Random(rule)
            with self.subTest(rule):
                self.assertEqual(self.check_all(random, slots, homes, steps, (None, rule)), {rule})

    def test_each_history_with_one_part_changed(self):
        for rule in RULES:
            slots, homes, steps, many, kept = harm(rule)
            without = [steps[:at] + steps[at + 1:] for at in range(len(steps))]
            twice = [steps[:at] + [steps[at]] + steps[at:] for at in range(len(steps))]
            papers = [
                *[(wrong, homes, steps, many, kept) for wrong in range(8, 65, 8)],
                *[(slots, wrong, steps, many, kept) for wrong in range(4, 33, 4)],
                *[(slots, homes, wrong, many, kept) for wrong in without + twice],
                *[(slots, homes, steps, wrong, kept) for wrong in range(max(0, many - 12), many + 4)],
                *[(slots, homes, steps, many, wrong) for wrong in ([], [0], [1], [0, 1], [2], [1, 2, 3])],
            ]
            for other in (None, rule):
                for paper in papers:
                    self.check(other, paper)

    def test_each_history_with_steps_behind_it(self):
        more = [("commit",), ("checkpoint",), ("put", "/z", [1]), ("make", "/f"), ("remove", "/a"), ("remove", "/f")]
        random = Random("behind")
        for rule in RULES:
            slots, homes, steps, many, kept = harm(rule)
            for count in (1, 2, 3):
                behind = [random.choice(more) for _ in range(count)]
                self.assertIs(self.check(rule, (slots, homes, steps + behind, many, kept)), True)
                self.check(None, (slots, homes, steps + behind, many, kept))
                self.check_all(random, slots, homes, steps + behind, (rule,))

    def test_data_that_looks_like_a_commit_record(self):
        for rule in (None, *RULES):
            steps = [("put", "/f", [("commit", 99), ("commit", 1)]), ("commit",), ("checkpoint",)]
            self.check_all(Random("data"), 16, 6, steps, (rule,))
        # The data alone is no number.
        self.assertIs(shows_harm("reuse", (16, 6, steps, 14, [0])), False)
        names = [("make", "/commit"), ("put", "/commit/commit", ["commit"]), ("commit",)]
        self.assertNotIn(None, self.check_all(Random("names"), 16, 6, names))

    def test_a_commit_record_that_is_overwritten(self):
        # Transaction 2 fills the ring, so its last record stands where that of transaction 1 stood.
        steps = [("make", "/a"), ("make", "/a/b"), ("make", "/a/b/c"), ("make", "/d"), ("commit",)]
        self.assertNotIn(None, self.check_all(Random("over"), 8, 7, steps))
        events = Judge(None, 8, 7, steps).events
        written = [event[2] for event in events if event[:2] == ("write", 4)]
        self.assertEqual(written, [("commit", 1), ("commit", 2)])

    def test_steps_that_raise_errors(self):
        steps = [
            ("make", "/a"), ("make", "/a"), ("make", None), ("put", "/f", [None]), ("put", "/a", []), ("commit",),
            ("remove", "/x"), ("move", "/a", "/a"), ("put", "/f", ["x"]), ("make", "/b"), ("commit",), ("checkpoint",),
        ]
        self.assertIn("tail", self.check_all(Random("errors"), 8, 6, steps))

    def test_before_transaction_1(self):
        for rule in (None, *RULES):
            for many in range(6):
                for kept in ([], [0], [0, 1]):
                    self.assertIs(shows_harm(rule, (8, 4, [], many, kept)), False)

    def test_the_number_of_events(self):
        for rule in RULES:
            slots, homes, steps, many, kept = harm(rule)
            most = len(Judge(rule, slots, homes, steps).events)
            for wrong in (-1, most + 1, 10 ** 30, *NO_INTEGERS):
                self.assertIs(shows_harm(rule, (slots, homes, steps, wrong, kept)), False)

    def test_bad_rules(self):
        for rule in NO_RULES:
            for paper in (harm("reuse"), None, [], (8, 4, [], 8, [])):
                with self.subTest(repr(rule)):
                    self.assertIs(raised(self, BadRule, shows_harm, rule, paper).rule, rule)

    def test_drawn_histories(self):
        random = Random("histories")
        seen = set()
        for _ in range(150):
            slots, homes = random.choice((8, 9, 12, 16, 32)), random.choice((4, 5, 6, 8))
            steps = [drawn_step(random) for _ in range(random.randrange(14))]
            for rule in (None, *RULES):
                judge = Judge(rule, slots, homes, steps)
                for _ in range(3):
                    many = random.randint(max(0, len(judge.events) - 12), len(judge.events))
                    kept = random.choice(judge.choices(random, many))
                    if self.check(rule, (slots, homes, steps, many, kept), judge):
                        seen.add(rule)
        # The others need more than drawn steps come upon.
        self.assertLessEqual({"commit", "tail"}, seen)
        self.assertNotIn(None, seen)


def drawn_step(random):
    path, goal = random.choice(("/a", "/b", "/a/b", "/f")), random.choice(("/a", "/c", "/a/f"))
    return random.choice((
        ("make", path), ("make", path), ("put", path, ["x"] * random.randrange(3)), ("put", path, ("y",)),
        ("remove", path), ("remove", path), ("move", path, goal), ("commit",), ("commit",), ("commit",),
        ("checkpoint",),
    ))


class PromiseTest(unittest.TestCase):
    """8.4: no history harms a store that keeps all rules."""

    def test_short_lives(self):
        words = [("make", "/a"), ("remove", "/a"), ("put", "/a", ["x"]), ("commit",), ("checkpoint",)]
        random = Random("short")
        for _ in range(100):
            steps = [random.choice(words) for _ in range(8)]
            judge = Judge(None, 16, 4, steps)
            for many in range(8, len(judge.events) + 1):
                for kept in random.sample(judge.choices(random, many), 2):
                    self.assertIs(shows_harm(None, (16, 4, steps, many, kept)), False)


class AnyPaperTest(unittest.TestCase):
    """8.4: any object is taken."""

    def check_false(self, paper):
        for rule in (None, "reuse", "tail"):
            with self.subTest(repr(paper), rule=rule):
                self.assertIs(shows_harm(rule, paper), False)

    def test_no_tuples_of_five(self):
        paper = (32, 6, EXAMPLE, 27, [0])
        for thing in (
            None, True, False, 0, 27, "", "reuse", "abcde", b"abcde", [], {}, {1}, (), object(), AlwaysEqual(),
            range(5), list(paper), paper[:4], paper[1:], (*paper, 0), (paper,), [paper], dict(enumerate(paper)),
            (None,) * 5, ([],) * 5, ((),) * 5, (AlwaysEqual(),) * 5, (True,) * 5, ("",) * 5,
        ):
            self.check_false(thing)

    def test_layouts_that_are_none(self):
        wrong = (*NO_INTEGERS, AlwaysEqual(), Layout(32, 6), 0, -8, 3, 65, 10 ** 30)
        for slots in (*wrong, 7):
            self.check_false((slots, 6, EXAMPLE, 27, [0]))
        for homes in (*wrong, 33):
            self.check_false((32, homes, EXAMPLE, 27, [0]))

    def test_steps_that_are_none(self):
        for wrong in (*NO_INTEGERS, tuple(EXAMPLE), dict(enumerate(EXAMPLE)), AlwaysEqual(), "commit", iter(EXAMPLE)):
            # An empty list is one, but then there are fewer events.
            self.check_false((32, 6, wrong, 27, [0]))
            if wrong != []:
                self.check_false((32, 6, wrong, 8, []))
        for step in (
            None, True, 1, "", "commit", [], ["commit"], (), ("commit", 1), ("make",), ("make", "/b", 1), ("Commit",),
            (["commit"],), ({},), (AlwaysEqual(),), (("commit",),), {"commit"}, AlwaysEqual(), (True,), ("flush",),
        ):
            for at in (0, 3, 5):
                self.check_false((32, 6, [*EXAMPLE[:at], step, *EXAMPLE[at:]], 27, [0]))

    def test_arguments_of_steps_of_any_kind(self):
        things = (None, True, 1, "", [None], {}, {1}, object(), AlwaysEqual(), (None,), b"/a", nested(10), [nested(9)])
        for thing in things:
            wrong = [
                ("make", thing), ("put", thing, thing), ("put", "/g", thing), ("remove", thing), ("move", thing, thing),
            ]
            # They raise errors and change nothing, so the rest does what it does without them.
            self.assertIs(shows_harm("reuse", (32, 6, wrong + EXAMPLE + wrong, 27, [0])), True)
            self.assertIs(shows_harm(None, (32, 6, wrong + EXAMPLE + wrong, 27, [])), False)

    def test_choices_that_are_none(self):
        for wrong in (
            *NO_INTEGERS, AlwaysEqual(), (0,), [1], [-1], [True], [False], [None], ["0"], [[0]], [(0,)], [0, 0], [0, 1],
            [{}], [AlwaysEqual()], {0}, {0: 0}, range(1), iter([0]),
        ):
            self.check_false((32, 6, EXAMPLE, 27, wrong))

    def test_things_nested_in_each_other(self):
        steps = list(EXAMPLE)
        steps.append(steps)
        self.check_false((32, 6, steps, 27, [0]))
        kept = []
        kept.append(kept)
        self.check_false((32, 6, EXAMPLE, 27, kept))
        paper = (32, 6, [], 27, [0])
        paper[2].append(paper)
        self.check_false(paper)
        self.check_false((paper, paper, paper, paper, paper))
        values = []
        values.append(values)
        self.assertIs(shows_harm("reuse", (32, 6, [("put", "/g", values), *EXAMPLE], 27, [0])), True)
        value = ([],)
        value[0].append(value)
        self.assertIs(shows_harm("reuse", (32, 6, [("put", "/g", value), *EXAMPLE], 27, [0])), True)
        deep = ()
        for _ in range(5000):
            deep = (deep,)
        self.assertIs(shows_harm("reuse", (32, 6, [("put", "/g", deep), *EXAMPLE], 27, [0])), True)
        self.assertIs(shows_harm("reuse", (32, 6, deep, 27, [0])), False)
        self.assertIs(shows_harm("reuse", deep), False)


if __name__ == "__main__":
    unittest.main()
