"""Facts: what is wrong with a value in their place, and what their entries make one thing."""

from solvedbothsides.bounds import MAX_ENTRIES, MAX_NAMES, MAX_UNLIKE
from solvedbothsides.choices import least_shortest
from solvedbothsides.closing import closed
from solvedbothsides.errors import BadFacts, NoTable
from solvedbothsides.shapes import are_below, is_below, is_tuple, is_tuple_between


def facts_error(value):
    """Return the pair that tells what is wrong with value first, None if it is facts."""
    if not is_tuple(value, 3):
        return (None, "facts")
    names, entries, unlike = value
    if not is_below(names, MAX_NAMES + 1) or names == 0:
        return (None, "names")
    if not is_tuple_between(entries, 0, MAX_ENTRIES):
        return (None, "entries")
    found = items_error(entries, "entry", lambda entry: is_entry(names, entry))
    if found is not None:
        return found
    if not is_tuple_between(unlike, 0, MAX_UNLIKE):
        return (None, "unlike")
    return items_error(unlike, "pair", lambda pair: is_pair(names, pair))


def items_error(items, word, is_right):
    """Return the number of the first item that is not right, with word, or not greater than the one ahead."""
    for number, item in enumerate(items):
        if not is_right(item):
            return (number, word)
        if number > 0 and items[number - 1] >= item:
            return (number, "order")
    return None


def is_entry(names, value):
    """Return whether value is a triple of names below names."""
    return is_tuple(value, 3) and are_below(value, names)


def is_pair(names, value):
    """Return whether value is a pair of names below names, the lesser one first."""
    return is_tuple(value, 2) and are_below(value, names) and value[0] < value[1]


def merged(facts):
    """Return for each name the least name that is the same thing wherever the entries hold."""
    names, entries, _ = facts
    return tuple(closed(names, entries, ()))


def forcing(facts, one, other):
    """Return the numbers of the fewest entries that make two names one thing, None if they need not be one."""
    return least_shortest(len(facts[1]), lambda numbers: are_one(leads_by(facts, numbers), (one, other)))


def clash(facts):
    """Return the pair that tells which entries make which unlike names one thing, None if there is a world."""
    found = least_shortest(len(facts[1]), lambda numbers: pair_made_one(facts, numbers) is not None)
    return None if found is None else (pair_made_one(facts, found), found)


def refuse_no_facts(value):
    """Raise BadFacts if value is no facts."""
    found = facts_error(value)
    if found is not None:
        number, word = found
        raise BadFacts(number, word)


def refuse_clash(facts):
    """Raise NoTable if there is no world of the facts."""
    found = clash(facts)
    if found is not None:
        pair, numbers = found
        raise NoTable(pair, numbers)


def leads_by(facts, numbers):
    """Return what the entries with these numbers make one thing, as closed tells it."""
    names, entries, _ = facts
    return closed(names, [entries[number] for number in numbers], ())


def are_one(leads, pair):
    """Return whether the two of pair are one thing."""
    one, other = pair
    return leads[one] == leads[other]


def pair_made_one(facts, numbers):
    """Return the number of the first pair of unlike names that these entries make one thing, None if there is none."""
    leads = leads_by(facts, numbers)
    for number, pair in enumerate(facts[2]):
        if are_one(leads, pair):
            return number
    return None
