"""How many tuples of things are tried."""

from solvedbothsides.bounds import MAX_TRIES
from solvedbothsides.errors import TooMany


def refuse_tries(things, names):
    """Raise TooMany if there are more tuples of things for the names than are tried."""
    tries = 1
    for _ in range(names):
        tries *= things
        if tries > MAX_TRIES:
            raise TooMany(MAX_TRIES)
