"""Worlds of facts: what is wrong with a value in their place, and such in which formulas tell the same or do not."""

from solvedbothsides.bounds import MAX_TABLE
from solvedbothsides.closing import closed
from solvedbothsides.drawing import drawn
from solvedbothsides.errors import BadSize
from solvedbothsides.facts import are_one, merged, refuse_clash
from solvedbothsides.shapes import are_below, is_tuple, is_whole
from solvedbothsides.squares import square
from solvedbothsides.tables import outcome, table_error


def world_error(facts, value):
    """Return the pair that tells what is wrong with value first, None if it is a world of the facts."""
    names, entries, unlike = facts
    if not is_tuple(value, 2):
        return (None, "world")
    table, things = value
    if table_error(table) is not None:
        return (None, "table")
    if not is_tuple(things, names) or not are_below(things, len(table)):
        return (None, "things")
    for number, (x, y, z) in enumerate(entries):
        if outcome(table, things[x], things[y]) != things[z]:
            return (number, "entry")
    for number, (first, second) in enumerate(unlike):
        if things[first] == things[second]:
            return (number, "unlike")
    return None


def verdict(facts, one, other):
    """Return whether the two formulas tell the same "always", "never", or in some worlds alone ("open")."""
    refuse_clash(facts)
    return drawn_verdict(facts, drawn(facts, ((one, other),)))


def parted(facts, one, other):
    """Return a world in which the two formulas tell unlike things, None if there is none."""
    refuse_clash(facts)
    return drawn_parted(facts, drawn(facts, ((one, other),)))


def joined(facts, one, other):
    """Return a world in which the two formulas tell the same, None if there is none."""
    refuse_clash(facts)
    return drawn_joined(facts, drawn(facts, ((one, other),)))


def world(facts):
    """Return a world in which two names are one thing only if they must be."""
    refuse_clash(facts)
    names, entries, _ = facts
    return smallest(names, entries, merged(facts))


def world_of(facts, size):
    """Return a world with a table of this size."""
    names, entries, _ = facts
    if not is_whole(size) or not 2 * names <= size <= MAX_TABLE:
        raise BadSize(size)
    refuse_clash(facts)
    return built(names, entries, merged(facts), size)


def drawn_verdict(facts, drawing):
    """Return what verdict tells of the last pair drawn, by the worlds in which each pair ahead of it tells the same."""
    if leads_apart(drawing) is None:
        return "always"
    return "never" if leads_as_one(facts, drawing) is None else "open"


def drawn_parted(facts, drawing):
    """Return a world in which the last pair drawn tells unlike things, and each pair ahead the same; else None."""
    return world_by(facts, drawing, leads_apart(drawing))


def drawn_joined(facts, drawing):
    """Return a world in which each pair drawn tells the same, None if there is none."""
    return world_by(facts, drawing, leads_as_one(facts, drawing))


def leads_apart(drawing):
    """Return what is one thing once each pair drawn but the last one tells the same, None if that one does so too."""
    many, entries, told = drawing
    leads = closed(many, entries, told[:-1])
    return None if are_one(leads, told[-1]) else leads


def leads_as_one(facts, drawing):
    """Return what is one thing once each pair drawn tells the same, None if unlike names must be one thing then."""
    many, entries, told = drawing
    leads = closed(many, entries, told)
    return None if any([are_one(leads, pair) for pair in facts[2]]) else leads


def world_by(facts, drawing, leads):
    """Return a world of the facts in which just that is one thing in the drawing which leads tells, None for None."""
    if leads is None:
        return None
    _, entries, _ = drawing
    return smallest(facts[0], entries, leads)


def smallest(names, entries, leads):
    """Return what built returns, with the least table of which it is sure that the entries go on to it."""
    return built(names, entries, leads, 2 * len(set(leads)))


def built(names, entries, leads, size):
    """Return a table of this size in which the entries hold, and a thing for each name: one thing just by leads."""
    firsts = sorted(set(leads))
    numbers = {lead: number for number, lead in enumerate(firsts)}
    things = [numbers[lead] for lead in leads]
    begun = [[None] * len(firsts) for _ in firsts]
    for x, y, z in entries:
        begun[things[x]][things[y]] = things[z]
    return (square(begun, size), tuple(things[:names]))
