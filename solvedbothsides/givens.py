"""Givens: pairs of formulas that are given to tell the same, and what is so in the worlds in which they do."""

from solvedbothsides.bounds import MAX_GIVEN, MAX_SHORT
from solvedbothsides.choices import least_shortest
from solvedbothsides.drawing import drawn
from solvedbothsides.errors import TornGivens
from solvedbothsides.facts import refuse_clash
from solvedbothsides.formulas import formula_error, size
from solvedbothsides.shapes import is_tuple, is_tuple_between
from solvedbothsides.worlds import drawn_joined, drawn_parted, drawn_verdict, leads_apart, leads_as_one


def givens_error(names, value):
    """Return the pair that tells what is wrong with value first, None if it is givens for names below names."""
    if not is_tuple_between(value, 0, MAX_GIVEN):
        return (None, "givens")
    for number, given in enumerate(value):
        word = given_error(names, given)
        if word is not None:
            return (number, word)
    return None


def given_error(names, value):
    """Return the word for what is wrong with value first, None if it is a pair of short formulas."""
    if not is_tuple(value, 2):
        return "pair"
    for formula in value:
        word = short_error(names, formula)
        if word is not None:
            return word
    return None


def short_error(names, value):
    """Return the word for what is wrong with value first, None if it is a short formula."""
    word = formula_error(names, value)
    if word is not None:
        return word
    return "size" if size(value) > MAX_SHORT else None


def torn(facts, givens):
    """Return the numbers of the fewest givens with which alone there is no world, None if there is a world."""
    refuse_clash(facts)
    return least_shortest(len(givens), lambda numbers: are_torn(facts, chosen(givens, numbers)))


def verdict_given(facts, givens, one, other):
    """Return what verdict tells by the worlds with the givens."""
    refuse_torn(facts, givens)
    return drawn_verdict(facts, drawn_with(facts, givens, one, other))


def reasons(facts, givens, one, other):
    """Return the numbers of the fewest givens by which alone the formulas always tell the same, None if they do not."""
    refuse_torn(facts, givens)
    return least_shortest(len(givens), lambda numbers: are_same(facts, chosen(givens, numbers), one, other))


def world_given(facts, givens, one, other, is_same):
    """Return a world with the givens in which the formulas tell the same, or unlike things; None if there is none."""
    refuse_torn(facts, givens)
    drawing = drawn_with(facts, givens, one, other)
    return drawn_joined(facts, drawing) if is_same else drawn_parted(facts, drawing)


def refuse_torn(facts, givens):
    """Raise NoTable if there is no world of the facts, TornGivens if there is none with the givens."""
    numbers = torn(facts, givens)
    if numbers is not None:
        raise TornGivens(numbers)


def chosen(givens, numbers):
    """Return the givens with these numbers."""
    return [givens[number] for number in numbers]


def are_torn(facts, givens):
    """Return whether there is no world with the givens."""
    return leads_as_one(facts, drawn(facts, givens)) is None


def are_same(facts, givens, one, other):
    """Return whether the formulas always tell the same by the givens."""
    return leads_apart(drawn_with(facts, givens, one, other)) is None


def drawn_with(facts, givens, one, other):
    """Return the drawing of the givens and, behind them, of the two formulas."""
    return drawn(facts, [*givens, (one, other)])
