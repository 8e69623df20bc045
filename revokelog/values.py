"""What counts as an integer and as a value of a block."""


def is_integer(thing):
    # Python counts True and False as integers; the document does not.
    return isinstance(thing, int) and not isinstance(thing, bool)


def is_between(thing, least, most):
    """Whether a thing is an integer from `least` to `most`."""
    return is_integer(thing) and least <= thing <= most


def is_value(thing, deepest):
    """Whether a thing is a value whose tuples are nested at most `deepest` deep."""
    if not isinstance(thing, tuple):
        return isinstance(thing, str) or is_integer(thing)
    if deepest < 1:
        return False
    for part in thing:
        if not is_value(part, deepest - 1):
            return False
    return True
