"""What follows from facts: entries, spare entries, and whether two facts say the same."""

from solvedbothsides.errors import UnlikeNames
from solvedbothsides.facts import clash, refuse_clash
from solvedbothsides.plain import same
from solvedbothsides.worlds import verdict


def follows(facts, entry):
    """Return whether the entry holds "always", "never", or in some worlds alone ("open")."""
    x, y, z = entry
    return verdict(facts, ("with", x, y), z)


def spare(facts):
    """Return the numbers of the entries each of which could be left out alone, all worlds staying the same."""
    refuse_clash(facts)
    return tuple([number for number in range(len(facts[1])) if is_spare(facts, number)])


def is_spare(facts, number):
    """Return whether the entry with this number holds always by the other ones alone."""
    names, entries, unlike = facts
    x, y, z = entries[number]
    others = (names, entries[:number] + entries[number + 1:], unlike)
    return same(others, ("with", x, y), z)


def alike(one, other):
    """Return whether the two facts have the same worlds."""
    if one[0] != other[0]:
        raise UnlikeNames(one[0], other[0])
    without_world = [clash(facts) is not None for facts in (one, other)]
    if any(without_world):
        return all(without_world)
    return tells_all(one, other) and tells_all(other, one)


def tells_all(facts, others):
    """Return whether all that the other facts tell holds in every world of the facts."""
    _, entries, unlike = others
    if any([follows(facts, entry) != "always" for entry in entries]):
        return False
    return all([verdict(facts, one, other) == "never" for one, other in unlike])
