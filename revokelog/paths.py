"""Names and paths of a store."""

ROOT = "/"
LONGEST_NAME = 8


def is_name(thing):
    """Whether a thing is a string of one to eight lowercase letters."""
    if not isinstance(thing, str) or not 1 <= len(thing) <= LONGEST_NAME:
        return False
    return all(["a" <= letter <= "z" for letter in thing])


def is_path(thing):
    if not isinstance(thing, str):
        return False
    if thing == ROOT:
        return True
    return thing.startswith(ROOT) and all([is_name(part) for part in thing[1:].split("/")])


def is_below(path, upper):
    """Whether a path lies below another one, which is not the root."""
    return path.startswith(upper + "/")


def parents_of(path):
    """The shorter beginnings of a path that are paths, the root first."""
    if path == ROOT:
        return []
    names = path[1:].split("/")
    return [ROOT] + ["/" + "/".join(names[:many]) for many in range(1, len(names))]


def last_name(path):
    """The last name of a path that is not the root."""
    return path.split("/")[-1]
