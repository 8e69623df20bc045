"""Stage 10 of the document: points 10.1 to 10.3."""

import unittest
from random import Random

from revokelog.crashes import crashed_store
from revokelog.errors import BadStep
from revokelog.layouts import Layout
from revokelog.runs import run, trees
from revokelog.stores import Store
from support import NO_PATHS, AlwaysEqual, PlainTree, raised, spoil, store_state

STEPS = [
    ("make", "/a"), ("put", "/a/f", ["x", 5]), ("remove", "/a/f"), ("move", "/a", "/b"), ("commit",), ("checkpoint",),
]

# Everything here is no step.
NO_STEPS = (
    None, True, 0, 1, "", "commit", "make", b"commit", [], ["commit"], ["make", "/a"], (), {}, {"commit"},
    {"commit": 1}, object(), AlwaysEqual(), range(2),
    ("make",), ("make", "/a", "/b"), ("put", "/a"), ("put", "/a", [], []), ("put",), ("remove",), ("remove", "/a", 1),
    ("move", "/a"), ("move",), ("move", "/a", "/b", "/c"), ("commit", 1), ("commit", None), ("checkpoint", ()),
    ("Commit",), ("commits",), ("",), ("commit ",), ("check",), ("tree",), ("names", "/"), ("get", "/f"), ("disk",),
    ("layout",), ("journal",), ("mark", {}), ("flush",), ("run", []),
    (0,), (None,), (True,), (1, "/a"), (b"commit",), (("commit",),), (["commit"],), ({},), ({"make"}, "/a"),
    (AlwaysEqual(),), (AlwaysEqual(), "/a"), (AlwaysEqual(), "/a", "/b"), (object(), "/a"), ("/a", "make"),
)

# Everything here is no list.
NO_LISTS = (
    None, True, False, 0, 1, "", "commit", b"", (), (("commit",),), {}, {("commit",)}, {("commit",): 1}, object(),
    AlwaysEqual(), range(0), iter([("commit",)]), ("commit",),
)


class StepsTest(unittest.TestCase):
    """10.1"""

    def check(self, steps, at):
        """Both functions raise the error, and run changes nothing."""
        store = Store(Layout(16, 6))
        store.make("/a")
        before = store_state(store)
        self.assertIs(raised(self, BadStep, run, store, steps).at, at)
        self.assertIs(raised(self, BadStep, trees, Layout(16, 6), steps).at, at)
        self.assertEqual(store_state(store), before)

    def test_no_lists(self):
        for steps in NO_LISTS:
            with self.subTest(repr(steps)):
                self.check(steps, None)

    def test_no_steps(self):
        for step in NO_STEPS:
            with self.subTest(repr(step)):
                self.check([step], 0)
                self.check([*STEPS[:3], step], 3)

    def test_the_first_of_several(self):
        self.check([("commit",), ("make",), None], 1)
        self.check([("commit",), ["commit"], ("make",), ("commit",)], 1)

    def test_no_step_is_done_ahead_of_a_wrong_one(self):
        store = Store(Layout(16, 6))
        before = store_state(store)
        raised(self, BadStep, run, store, [*STEPS, ("commit",), ("move", "/a")])
        self.assertEqual(store_state(store), before)

    def test_a_list_within_itself(self):
        steps = [("commit",)]
        steps.append(steps)
        self.check(steps, 1)
        step = ("put", "/f", [])
        step[2].append(step)
        self.assertEqual(run(Store(Layout(16, 6)), [step]), [("BadValue", 13)])

    def test_only_the_word_and_the_length_are_checked(self):
        things = (None, True, 1, "", "a", [], ["/a"], {}, {"/a"}, object(), AlwaysEqual(), ("/a",), b"/a")
        for thing in things:
            with self.subTest(repr(thing)):
                store = Store(Layout(16, 6))
                before = store_state(store)
                steps = [
                    ("make", thing), ("put", thing, [1]), ("remove", thing), ("move", thing, "/b"),
                    ("put", thing, thing),
                ]
                self.assertEqual(run(store, steps), [("BadPath", 13)] * 5)
                self.assertEqual(store_state(store), before)
                self.assertEqual(trees(Layout(16, 6), steps), [(1, [])])
        store = Store(Layout(16, 6))
        for thing in (None, True, 1, "", "ab", [None], [True], {}, {1}, object(), AlwaysEqual(), [[1]], ([],), b"a"):
            self.assertEqual(run(store, [("put", "/f", thing)]), [("BadValue", 13)])

    def test_subclasses_of_tuples_and_lists(self):
        class Step(tuple):
            pass

        class Steps(list):
            pass

        steps = Steps([Step(("make", "/a")), Step(("commit",))])
        self.assertEqual(run(Store(Layout(16, 6)), steps), [(None, 13), (2, 20)])


class RunTest(unittest.TestCase):
    """10.2"""

    def test_document_example(self):
        steps = [("make", "/a"), ("make", "/a"), ("commit",), ("commit",)]
        self.assertEqual(run(Store(Layout(16, 6)), steps), [(None, 13), ("HasEntry", 13), (2, 20), (None, 20)])

    def test_no_steps(self):
        store = Store(Layout(16, 6))
        before = store_state(store)
        self.assertEqual(run(store, []), [])
        self.assertEqual(store_state(store), before)

    def test_every_step(self):
        store = Store(Layout(32, 8))
        self.assertEqual(run(store, STEPS), [(None, 13), (None, 15), (None, 15), (None, 15), (2, 22), (1, 28)])
        self.assertEqual(store.tree(), [("/b", None)])
        self.assertEqual(run(store, [("put", "/f", ("y",)), ("commit",)]), [(None, 29), (3, 35)])
        self.assertEqual(store.tree(), [("/b", None), ("/f", ("y",))])

    def test_the_store_is_the_one_that_was_passed(self):
        store, other = Store(Layout(32, 8)), Store(Layout(32, 8))
        run(store, STEPS)
        for call in (
            lambda: other.make("/a"), lambda: other.put("/a/f", ["x", 5]), lambda: other.remove("/a/f"),
            lambda: other.move("/a", "/b"), other.commit, other.checkpoint,
        ):
            call()
        self.assertEqual(store_state(store), store_state(other))

    def test_every_error(self):
        store = Store(Layout(8, 5))
        steps = [
            ("make", "a"), ("make", "/x/y"), ("make", "/a"), ("make", "/a"), ("make", "/a/b"), ("remove", "/a"),
            ("remove", "/"), ("remove", "/b"), ("put", "/a", [1]), ("put", "/f", [1, 2]), ("put", "/f", [1] * 7),
            ("put", "/f", [True]), ("move", "/a", "/a/c"), ("move", "/x", "/y"), ("move", "/a", "/a"), ("commit",),
            ("make", "/c"), ("make", "/d"), ("commit",), ("checkpoint",), ("checkpoint",), ("commit",),
        ]
        self.assertEqual([row[0] for row in run(store, steps)], [
            "BadPath", "NoEntry", None, "HasEntry", None, "NotEmpty", "BadPath", "NoEntry", "HasEntry", "NoRoom",
            "BadValue", "BadValue", "BadPath", "NoEntry", "HasEntry", 2, None, "NoRoom", "NoSpace", 1, 0, 3,
        ])
        self.assertEqual(store.tree(), [("/a", None), ("/a/b", None), ("/c", None)])

    def test_a_step_that_raises_an_error_changes_nothing(self):
        store = Store(Layout(16, 6))
        run(store, [("make", "/a"), ("commit",), ("make", "/b")])
        before = store_state(store)
        count = len(store.disk().events())
        for path in NO_PATHS:
            self.assertEqual(run(store, [("make", path), ("remove", path)]), [("BadPath", count)] * 2)
        self.assertEqual(store_state(store), before)

    def test_results_are_values_and_names(self):
        rows = run(Store(Layout(16, 6)), [("make", "/a"), ("make", "/a"), ("commit",), ("checkpoint",)])
        self.assertEqual([type(row) for row in rows], [tuple] * 4)
        self.assertEqual([(type(one), type(count)) for one, count in rows], [
            (type(None), int), (str, int), (int, int), (int, int),
        ])

    def test_errors_of_others_are_not_caught(self):
        store = Store(Layout(16, 6))

        class Broken(list):
            def __len__(self):
                raise KeyError("broken")

        with self.assertRaises(KeyError):
            run(store, [("put", "/f", Broken())])

    def test_an_opened_store(self):
        store = Store(Layout(16, 6))
        run(store, [("make", "/a"), ("commit",)])
        opened = crashed_store(store, [])
        # The recovery writes three homes and the header, and flushes twice.
        self.assertEqual(run(opened, [("checkpoint",), ("make", "/b"), ("commit",)]), [(0, 6), (None, 6), (3, 13)])

    def test_without_a_rule(self):
        for rule, count in (("commit", 18), ("settle", 18), ("cancel", 20)):
            store = Store(Layout(16, 6), without=rule)
            self.assertEqual(run(store, [("make", "/a"), ("commit",)])[1], (2, count))

    def test_the_caller_owns_the_list(self):
        steps = [("make", "/a"), ("put", "/f", ["x"]), ("commit",)]
        store = Store(Layout(16, 6))
        spoil(run(store, steps))
        self.assertEqual(steps, [("make", "/a"), ("put", "/f", ["x"]), ("commit",)])
        self.assertEqual(store.tree(), [("/a", None), ("/f", ("x",))])
        spoil(steps)
        self.assertEqual(store.tree(), [("/a", None), ("/f", ("x",))])


class TreesTest(unittest.TestCase):
    """10.3"""

    def test_document_examples(self):
        steps = [("put", "/f", [1]), ("commit",), ("remove", "/f"), ("commit",)]
        self.assertEqual(trees(Layout(16, 6), steps), [(1, []), (2, [("/f", (1,))]), (3, [])])
        self.assertEqual(raised(self, BadStep, trees, Layout(16, 6), [("make",)]).at, 0)

    def test_no_commit(self):
        self.assertEqual(trees(Layout(8, 4), []), [(1, [])])
        self.assertEqual(trees(Layout(8, 4), [("make", "/a"), ("checkpoint",)]), [(1, [])])

    def test_commits_without_a_number(self):
        steps = [
            ("commit",), ("make", "/a"), ("commit",), ("commit",), ("make", "/b"), ("commit",), ("checkpoint",),
            ("checkpoint",), ("commit",),
        ]
        # The ring is too small for the second transaction until the first one is written home.
        self.assertEqual(trees(Layout(8, 6), steps), [(1, []), (2, [("/a", None)]), (3, [("/a", None), ("/b", None)])])

    def test_each_tree_is_as_it_was_then(self):
        steps = [
            ("make", "/a"), ("put", "/a/f", ["x"]), ("commit",), ("put", "/a/f", ["y", ()]), ("commit",),
            ("move", "/a", "/b"), ("commit",), ("remove", "/b/f"), ("commit",), ("remove", "/b"), ("commit",),
            ("make", "/c"),
        ]
        self.assertEqual(trees(Layout(64, 8), steps), [
            (1, []), (2, [("/a", None), ("/a/f", ("x",))]), (3, [("/a", None), ("/a/f", ("y", ()))]),
            (4, [("/b", None), ("/b/f", ("y", ()))]), (5, [("/b", None)]), (6, []),
        ])

    def test_drawn_steps(self):
        random = Random("trees")
        paths = ("/a", "/b", "/a/b", "/a/f", "/f")
        for _ in range(60):
            steps = []
            for _ in range(40):
                path = random.choice(paths)
                steps.append(random.choice((
                    ("make", path), ("put", path, [random.randrange(9)]), ("remove", path), ("commit",), ("commit",),
                    ("move", path, random.choice(paths)), ("checkpoint",),
                )))
            layout = Layout(random.choice((8, 16, 64)), random.choice((4, 8)))
            store, plain, expected = Store(layout), PlainTree(), [(1, [])]
            for step in steps:
                result = run(store, [step])[0][0]
                if not isinstance(result, str):
                    plain.do(step)
                if step[0] == "commit" and isinstance(result, int):
                    expected.append((result, plain.tree()))
            self.assertEqual(trees(layout, steps), expected)

    def test_the_caller_owns_the_lists(self):
        layout, steps = Layout(16, 6), [("make", "/a"), ("put", "/f", ["x"]), ("commit",)]
        expected = trees(layout, steps)
        spoil(trees(layout, steps))
        self.assertEqual((trees(layout, steps), layout), (expected, Layout(16, 6)))
        self.assertEqual(steps, [("make", "/a"), ("put", "/f", ["x"]), ("commit",)])


if __name__ == "__main__":
    unittest.main()
