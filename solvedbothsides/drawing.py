"""Formulas drawn as entries: a thing of its own for all that a formula tells."""

from solvedbothsides.formulas import parts
from solvedbothsides.shapes import is_whole


def drawn(facts, pairs):
    """Return how many things there are, the entries of the facts and of the formulas in pairs, and what these tell.

    The names are the first things. What the formulas tell is told pair by pair, in the order of pairs.
    """
    many, entries, _ = facts
    told = []
    for one, other in pairs:
        many, first_entries, first = drawn_formula(many, one)
        many, second_entries, second = drawn_formula(many, other)
        entries = [*entries, *first_entries, *second_entries]
        told.append((first, second))
    return (many, entries, told)


def drawn_formula(many, formula):
    """Return how many things there are with those of the formula, its entries, and the thing that it tells."""
    entries = []
    things = []
    for part in parts(formula)[::-1]:
        if is_whole(part):
            things.append(part)
        else:
            one = things.pop()
            other = things.pop()
            entries.append(entry_told(part[0], one, other, many))
            things.append(many)
            many += 1
    return (many, entries, things.pop())


def entry_told(word, one, other, out):
    """Return the entry by which a part that begins with word, and has one and other, tells out."""
    if word == "with":
        return (one, other, out)
    if word == "behind":
        return (one, out, other)
    return (out, one, other)
