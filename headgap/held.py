"""What papers do with any values: they keep copies of them, and compare them by their kinds, too."""

from headgap.live import Array


def copied(value):
    """A value that nothing done to the lists, the dicts and the arrays of this one changes."""
    if isinstance(value, list):
        return [copied(part) for part in value]
    if isinstance(value, tuple):
        return tuple([copied(part) for part in value])
    if isinstance(value, dict):
        return {key: copied(value[key]) for key in value}
    return value.twin() if isinstance(value, Array) else value


def same(one, other):
    """Whether two values are equal and of the same kinds throughout."""
    if one.__class__.__name__ != other.__class__.__name__:
        return False
    if isinstance(one, (list, tuple)):
        return len(one) == len(other) and all([same(one[k], other[k]) for k in range(len(one))])
    if isinstance(one, dict):
        return len(one) == len(other) and same_items(one, other)
    return one == other


def same_items(one, other):
    """Whether dicts of one length have the same keys and values."""
    # True and 1 are one key for Python, so the keys of the other dict are looked up, too.
    keys = {key: key for key in other}
    for key in one:
        if key not in keys or not same(key, keys[key]) or not same(one[key], other[key]):
            return False
    return True
