"""Lists of steps that are done on a store one by one."""

from revokelog.errors import BadStep, LogError
from revokelog.stores import Store
from revokelog.values import is_integer

# The word and the length of each kind of step.
STEP_FORMS = (("make", 2), ("put", 3), ("remove", 2), ("move", 3), ("commit", 1), ("checkpoint", 1))


def run(store, steps):
    """Does the steps; the rows (result, number of the disk's events) behind each of them."""
    check_steps(steps)
    rows = []
    for step in steps:
        result = _do_step(store, step)
        rows.append((result, len(store.disk().events())))
    return rows


def trees(layout, steps):
    """The rows (number, tree) behind each commit of the steps on a new store."""
    check_steps(steps)
    return committed_trees(Store(layout), steps)


def check_steps(steps):
    if not isinstance(steps, list):
        raise BadStep(None)
    for at, step in enumerate(steps):
        if not _is_step(step):
            raise BadStep(at)


def committed_trees(store, steps):
    """Does the steps on a new store; the rows (number, tree) behind each of its commits."""
    rows = [(1, store.tree())]
    for step in steps:
        result = _do_step(store, step)
        # An empty commit has no number, and one that fails has the name of its error.
        if step[0] == "commit" and is_integer(result):
            rows.append((result, store.tree()))
    return rows


def _is_step(thing):
    if not isinstance(thing, tuple) or len(thing) < 1 or not isinstance(thing[0], str):
        return False
    return (thing[0], len(thing)) in STEP_FORMS


def _do_step(store, step):
    """What the step's method returns, or the name of the error that it raises."""
    try:
        return _call_method(store, step)
    except LogError as error:
        return type(error).__name__


def _call_method(store, step):
    word = step[0]
    if word == "make":
        return store.make(step[1])
    if word == "put":
        return store.put(step[1], step[2])
    if word == "remove":
        return store.remove(step[1])
    if word == "move":
        return store.move(step[1], step[2])
    if word == "commit":
        return store.commit()
    return store.checkpoint()
