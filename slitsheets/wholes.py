"""Which values are whole numbers."""


def is_whole(value):
    """Return whether a value is a whole number; Python counts Booleans as integers, the document does not."""
    return isinstance(value, int) and not isinstance(value, bool)


def are_wholes(value, many):
    """Return whether a value is a tuple of just so many whole numbers."""
    if not isinstance(value, tuple) or len(value) != many:
        return False
    return all([is_whole(item) for item in value])
