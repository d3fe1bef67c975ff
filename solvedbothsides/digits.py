"""Check digits: words that lead from the thing 0 to itself, and the exchanges that they do not show."""

from solvedbothsides.tables import behind, outcome


def mark(table, word):
    """Return the thing that has to be put behind word for it to lead from 0 to 0."""
    return behind(table, reached(table, 0, word), 0)


def is_marked(table, word):
    """Return whether word leads from 0 to 0."""
    return reached(table, 0, word) == 0


def missed(table):
    """Return the least (here, one, other) from which an exchange of one and other is not noticed, None if none is."""
    things = range(len(table))
    for here in things:
        for one in things:
            for other in range(one + 1, len(table)):
                if reached(table, here, (one, other)) == reached(table, here, (other, one)):
                    return (here, one, other)
    return None


def reached(table, here, word):
    """Return the thing to which word leads from here."""
    for thing in word:
        here = outcome(table, here, thing)
    return here
