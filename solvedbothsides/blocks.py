"""Blocks and begun squares: what is wrong with them, and the tables that they go on to."""

from solvedbothsides.bounds import MAX_TABLE
from solvedbothsides.errors import BadSize
from solvedbothsides.rows import is_begun_row, is_row, rows_error
from solvedbothsides.shapes import is_tuple_between, is_whole
from solvedbothsides.squares import closed_block, square


def block_error(size, value):
    """Return the pair that tells what is wrong with value first, None if it is a block for tables of this size."""
    if not is_tuple_between(value, 1, size):
        return (None, "block")
    return rows_error(value, lambda row: is_block_row(size, value[0], row))


def is_block_row(size, first, value):
    """Return whether value is a row for tables of this size, as long as the first one, which may be value itself."""
    # The first row is looked at ahead of the others, so that it has a length wherever this asks for it.
    return is_tuple_between(value, 1, size) and is_row(value, len(first), size)


def lacking(block, size):
    """Return the things that stand too seldom in the block for a table of this size, ascending."""
    least = len(block) + len(block[0]) - size
    often = [0] * size
    for row in block:
        for thing in row:
            often[thing] += 1
    return tuple([thing for thing in range(size) if often[thing] < least])


def completed(block, size):
    """Return a table of this size that has the block in its first rows and columns, None if there is none."""
    return None if lacking(block, size) else closed_block(block, size)


def begun_error(value):
    """Return the pair that tells what is wrong with value first, None if it is a begun square."""
    if not is_tuple_between(value, 1, MAX_TABLE // 2):
        return (None, "square")
    return rows_error(value, lambda row: is_begun_row(row, len(value)))


def grown(begun, size):
    """Return a table of this size in whose first rows and columns the things of the begun square stand."""
    if not is_whole(size) or not 2 * len(begun) <= size <= MAX_TABLE:
        raise BadSize(size)
    return square(begun, size)
