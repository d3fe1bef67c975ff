"""The least tables of which facts have a world."""

from solvedbothsides.bounds import MAX_LEAST
from solvedbothsides.closing import readings
from solvedbothsides.facts import refuse_clash


def least_size(facts):
    """Return the least number of things of the table of a world, None if none has few enough."""
    refuse_clash(facts)
    for size in range(1, MAX_LEAST + 1):
        if has_world(facts, size):
            return size
    return None


def has_world(facts, size):
    """Return whether there is a world with a table of this size."""
    refuted = set()
    for things in all_things(facts, size):
        begun = begun_by(facts[1], things, size)
        # Names that stand in no entry change nothing in the square.
        if begun not in refuted:
            refuted.add(begun)
            if goes_on([list(row) for row in begun]):
                return True
    return False


def all_things(facts, size):
    """Return the tuples of things below size, one for each name, by which no entry or pair of the facts is refuted.

    What differs but in which things they are is there once: each name has a thing of those ahead or the next one.
    """
    names, entries, unlike = facts
    found = [()]
    for name in range(names):
        # What is said of greater names as well is looked at when those have their things.
        now_entries = [entry for entry in entries if max(entry) <= name]
        now_unlike = [pair for pair in unlike if max(pair) <= name]
        longer = [(*things, thing) for things in found for thing in range(min(size, next_thing(things) + 1))]
        found = [things for things in longer if is_open(things, now_entries, now_unlike)]
    return found


def next_thing(things):
    """Return the least thing that is greater than all of things."""
    return max(things, default=-1) + 1


def is_open(things, entries, unlike):
    """Return whether no two entries say unlike things at one place with these things, and unlike names are unlike."""
    if any([things[one] == things[other] for one, other in unlike]):
        return False
    seen = {}
    for entry in entries:
        for word, one, other, told in readings(entry):
            if seen.setdefault((word, things[one], things[other]), things[told]) != things[told]:
                return False
    return True


def begun_by(entries, things, size):
    """Return the begun square of this size in which the entries stand with these things."""
    rows = [[None] * size for _ in range(size)]
    for x, y, z in entries:
        rows[things[x]][things[y]] = things[z]
    return tuple([tuple(row) for row in rows])


def goes_on(rows):
    """Return whether a table of the same size goes on from the rows of a begun square, and fill them if so."""
    cell = first_empty(rows)
    if cell is None:
        return True
    x, y = cell
    taken = rows[x] + [row[y] for row in rows]
    for thing in range(len(rows)):
        if thing not in taken:
            rows[x][y] = thing
            if goes_on(rows):
                return True
    rows[x][y] = None
    return False


def first_empty(rows):
    """Return the row and the place in it of the first cell in which no thing stands, None if there is none."""
    for x, row in enumerate(rows):
        if None in row:
            return (x, row.index(None))
    return None
