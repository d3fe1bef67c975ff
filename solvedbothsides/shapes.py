"""Of what kind a value is."""


def is_whole(value):
    """Return whether value is an integer."""
    # Python takes True and False for integers, the promises do not.
    return isinstance(value, int) and not isinstance(value, bool)


def is_below(value, bound):
    """Return whether value is an integer from 0 on that is less than bound."""
    return is_whole(value) and 0 <= value < bound


def are_below(values, bound):
    """Return whether each of values is an integer from 0 on that is less than bound."""
    return all([is_below(value, bound) for value in values])


def is_tuple(value, many):
    """Return whether value is a tuple of so many items."""
    return isinstance(value, tuple) and len(value) == many


def is_tuple_between(value, least, most):
    """Return whether value is a tuple of at least and at most so many items."""
    return isinstance(value, tuple) and least <= len(value) <= most
