"""Values that callers pass in: copies that they cannot change later, and what they are."""


def copied(value):
    """The same value, with new lists and tuples at every depth."""
    if isinstance(value, list):
        return [copied(item) for item in value]
    if isinstance(value, tuple):
        return tuple([copied(item) for item in value])
    return value


def is_integer(thing):
    """Whether any value is an integer; a truth value is none."""
    return isinstance(thing, int) and not isinstance(thing, bool)


def are_integers(thing):
    """Whether any value is a tuple of integers."""
    return isinstance(thing, tuple) and all([is_integer(item) for item in thing])
