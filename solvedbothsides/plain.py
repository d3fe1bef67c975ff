"""Plain formulas, and roads of single moves from formula to formula."""

from solvedbothsides.bounds import MAX_ROAD, MAX_SIZE
from solvedbothsides.facts import refuse_clash
from solvedbothsides.formulas import folded, formula_error, size
from solvedbothsides.moves import is_move, leads_and_reads, next_down, shortened
from solvedbothsides.shapes import is_tuple_between


def plain(facts, formula):
    """Return the plain formula to which moves lead from the formula."""
    refuse_clash(facts)
    leads, reads = leads_and_reads(facts)
    return folded(
        formula,
        lambda name: leads[name],
        lambda word, first, second: plain_whole(leads, reads, (word, first, second)),
    )


def plain_whole(leads, reads, formula):
    """Return the plain formula to which moves lead from a formula of which both parts are plain."""
    # What is left of plain parts is plain in its turn.
    made = shortened(leads, reads, formula)
    return formula if made is None else made


def same(facts, one, other):
    """Return whether the two formulas have the same plain form."""
    return plain(facts, one) == plain(facts, other)


def road(facts, one, other):
    """Return a road from one formula to the other one, None if there is none."""
    refuse_clash(facts)
    # What is greater is no formula, so that it stands on no road.
    if size(one) > MAX_SIZE or size(other) > MAX_SIZE:
        return None
    down = road_down(facts, one)
    other_down = road_down(facts, other)
    for number, formula in enumerate(down):
        if formula in other_down:
            # Each move leads either way, so that the second road, turned round, leads back up.
            up = other_down[:other_down.index(formula)][::-1]
            return tuple(down[:number + 1] + up)
    return None


def road_down(facts, formula):
    """Return the list of formulas from the formula to its plain form, each a single move behind the one ahead."""
    leads, reads = leads_and_reads(facts)
    found = []
    while formula is not None:
        found.append(formula)
        formula = next_down(leads, reads, formula)
    return found


def is_road(facts, one, other, value):
    """Return whether value is a road from one formula to the other one."""
    refuse_clash(facts)
    if not is_tuple_between(value, 1, MAX_ROAD):
        return False
    if any([formula_error(facts[0], formula) is not None for formula in value]):
        return False
    if value[0] != one or value[-1] != other:
        return False
    leads, reads = leads_and_reads(facts)
    return all([is_move(leads, reads, value[number - 1], value[number]) for number in range(1, len(value))])
