"""Histories after which the absence of a rule does harm."""

from revokelog.crashes import open_store
from revokelog.errors import BadChoice, BadCount, BadLayout, BadRule, BadStep
from revokelog.journals import is_rule
from revokelog.layouts import Layout
from revokelog.runs import check_steps, committed_trees
from revokelog.stores import Store

HISTORY_PARTS = 5
NO_NUMBER = 0

# For each rule (slots, homes, steps, many, kept).
HISTORIES = {
    # Replay writes the removed directory over the data of /f.
    "revoke": (
        32, 6,
        (("make", "/a"), ("commit",), ("remove", "/a"), ("commit",), ("put", "/f", ("x",)), ("commit",)),
        33, (),
    ),
    # The revoke for /a covers the copy of /b in the same home, so replay never writes /b.
    "cancel": (
        32, 6,
        (("make", "/a"), ("commit",), ("remove", "/a"), ("make", "/b"), ("commit",)),
        28, (),
    ),
    # Replay writes the copy of the removed directory over the data of /f.
    "drop": (
        32, 6,
        (("make", "/a"), ("remove", "/a"), ("put", "/f", ("x",)), ("commit",)),
        21, (),
    ),
    # The data stands in the home of a directory whose removal is not committed.
    "reuse": (
        32, 6,
        (("make", "/a"), ("commit",), ("checkpoint",), ("remove", "/a"), ("put", "/f", ("x",))),
        27, (0,),
    ),
    # The checkpoint writes the removed directory over the data of /f.
    "forget": (
        32, 6,
        (
            ("make", "/a"), ("commit",), ("remove", "/a"), ("commit",), ("put", "/f", ("x",)), ("commit",),
            ("checkpoint",),
        ),
        40, (),
    ),
    # Of all its records, the transaction keeps the commit record only.
    "commit": (
        32, 6,
        (("make", "/a"), ("commit",)),
        17, (4,),
    ),
    # The data of /g stands in the home of /f, but the commit record of the removal is lost.
    "settle": (
        32, 6,
        (("put", "/f", ("x",)), ("commit",), ("remove", "/f"), ("commit",), ("put", "/g", ("y",))),
        24, (1,),
    ),
    # The header is kept, the homes that it takes for written are lost.
    "tail": (
        32, 6,
        (("make", "/a"), ("commit",), ("checkpoint",)),
        23, (3,),
    ),
    # The header still leads to a transaction whose slots a later one has taken.
    "header": (
        8, 4,
        (
            ("make", "/a"), ("commit",), ("put", "/f", ()), ("commit",), ("checkpoint",), ("put", "/g", ()),
            ("commit",),
        ),
        29, (1,),
    ),
}


def harm(rule):
    """A history that harms a store made without this rule."""
    if not is_rule(rule):
        raise BadRule(rule)
    slots, homes, steps, many, kept = HISTORIES[rule]
    return slots, homes, list(steps), many, list(kept)


def shows_harm(rule, paper):
    """Whether a thing is a history that harms a store made without this rule."""
    if rule is not None and not is_rule(rule):
        raise BadRule(rule)
    if not isinstance(paper, tuple) or len(paper) != HISTORY_PARTS:
        return False
    slots, homes, steps, many, kept = paper
    try:
        layout = Layout(slots, homes)
        check_steps(steps)
    except (BadLayout, BadStep):
        return False
    store = Store(layout, without=rule)
    trees = dict(committed_trees(store, steps))
    try:
        before = store.disk().after(many)
        crashed = before.crashed(kept)
    except (BadCount, BadChoice):
        return False
    number = _number_left(layout, before, kept)
    return number != NO_NUMBER and open_store(layout, crashed).tree() != trees[number]


def _number_left(layout, disk, kept):
    """The highest number whose commit record a crash leaves, or NO_NUMBER."""
    writes = [(event[1], event[2]) for event in disk.events() if event[0] == "write"]
    waiting = disk.pending()
    flushed = writes[:len(writes) - len(waiting)]
    left = flushed + [waiting[at] for at in kept]
    return max([_number_in(layout, block, value) for block, value in left], default=NO_NUMBER)


def _number_in(layout, block, value):
    """The number of the commit record that is written here, or NO_NUMBER."""
    # The data of a file may look like a record, so only writes to slots count.
    if layout.slot_block(0) <= block < layout.home_block(0) and value[0] == "commit":
        return value[1]
    return NO_NUMBER
