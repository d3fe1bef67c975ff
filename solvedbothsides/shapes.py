"""Of what kind a value is."""


def is_whole(value):
    """Return whether value is an integer."""
    # Python takes True and False for integers, the promises do not.
    return isinstance(value, int) and not isinstance(value, bool)


def is_tuple(value, many):
    """Return whether value is a tuple of so many items."""
    return isinstance(value, tuple) and len(value) == many
