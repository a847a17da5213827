"""Lists made tuples."""


def as_tuples(value):
    """Return the value with a tuple in the place of each list, at every level."""
    if isinstance(value, (list, tuple)):
        return tuple([as_tuples(item) for item in value])
    return value
