"""With which things a table is a world of facts."""

from solvedbothsides.trying import refuse_tries


def placed(facts, table):
    """Return the least tuple of things with which the table is a world of the facts, None if there is none."""
    found = all_placed(facts, table)
    return found[0] if found else None


def places(facts, table):
    """Return with how many tuples of things the table is a world of the facts."""
    return len(all_placed(facts, table))


def all_placed(facts, table):
    """Return the list of all tuples of things with which the table is a world of the facts, ascending."""
    names, entries, unlike = facts
    refuse_tries(len(table), names)
    found = [()]
    for name in range(names):
        # What is said of greater names as well is looked at when those have their things.
        now_entries = [entry for entry in entries if max(entry) == name]
        now_unlike = [pair for pair in unlike if max(pair) == name]
        longer = [(*things, thing) for things in found for thing in range(len(table))]
        found = [things for things in longer if is_right(table, things, now_entries, now_unlike)]
    return found


def is_right(table, things, entries, unlike):
    """Return whether the entries hold with these things, and unlike names are unlike things."""
    for x, y, z in entries:
        if table[things[x]][things[y]] != things[z]:
            return False
    return all([things[one] != things[other] for one, other in unlike])
