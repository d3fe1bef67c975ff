"""Rows of things: what is wrong with them, and with the columns that they make."""

from solvedbothsides.shapes import are_below, is_tuple


def is_row(value, many, below):
    """Return whether value is a tuple of so many things below this number, none of them twice."""
    return is_tuple(value, many) and are_below(value, below) and not has_twice(value)


def is_begun_row(value, many):
    """Return whether value is a tuple of so many cells, each None or a thing below this number, no thing twice."""
    if not is_tuple(value, many):
        return False
    things = tuple([cell for cell in value if cell is not None])
    return is_row(things, len(things), many)


def has_twice(cells):
    """Return whether a thing stands twice among the cells, None being no thing."""
    things = [cell for cell in cells if cell is not None]
    return len(set(things)) < len(things)


def rows_error(rows, is_right):
    """Return the number of the first row that is not right, or of the first column with a thing twice; else None."""
    for number, row in enumerate(rows):
        if not is_right(row):
            return (number, "row")
    for number, column in enumerate(zip(*rows)):
        if has_twice(column):
            return (number, "column")
    return None


def absent(cells, many):
    """Return the things below this number that do not stand among the cells, ascending."""
    there = set(cells)
    return [thing for thing in range(many) if thing not in there]
