"""Values that callers pass in: copies that they cannot change later."""


def copied(value):
    """The same value, with new lists and tuples at every depth."""
    if isinstance(value, list):
        return [copied(item) for item in value]
    if isinstance(value, tuple):
        return tuple([copied(item) for item in value])
    return value
