"""Parts of tables: what formulas tell with some things, and the fewest things with which they tell all."""

from solvedbothsides.choices import least_shortest


def span(table, things):
    """Return all things of the table that some formula tells with some of the things, ascending."""
    there = sorted(set(things))
    before = []
    # What is closed under "with" is so under "behind" and "ahead", as each row and column has no thing twice.
    while there != before:
        before = there
        there = sorted(set(there + [table[x][y] for x in there for y in there]))
    return tuple(there)


def lone(table):
    """Return all that span tells of a single thing, ascending, each once."""
    return tuple(sorted(set([span(table, (thing,)) for thing in range(len(table))])))


def makers(table):
    """Return the fewest things of which span tells all things of the table, the least ones of these."""
    return least_shortest(len(table), lambda things: len(span(table, things)) == len(table))
