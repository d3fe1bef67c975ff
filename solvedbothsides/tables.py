"""Tables: what is wrong with a value in their place, what stands in them, and what holds in them."""

from solvedbothsides.bounds import MAX_TABLE
from solvedbothsides.formulas import WORDS, folded, names_in
from solvedbothsides.rows import is_row, rows_error
from solvedbothsides.shapes import is_tuple_between
from solvedbothsides.trying import refuse_tries


def table_error(value):
    """Return the pair that tells what is wrong with value first, None if it is a table."""
    if not is_tuple_between(value, 1, MAX_TABLE):
        return (None, "table")
    return rows_error(value, lambda row: is_row(row, len(value), len(value)))


def outcome(table, one, other):
    """Return what one gives with other."""
    return table[one][other]


def behind(table, one, out):
    """Return the thing that stands behind one where out comes out."""
    return table[one].index(out)


def ahead(table, other, out):
    """Return the thing that stands ahead of other where out comes out."""
    return [row[other] for row in table].index(out)


def value(table, things, formula):
    """Return the thing that the formula tells with things[n] in the place of each name n."""
    return folded(formula, lambda name: things[name], lambda word, one, other: told(table, word, one, other))


def told(table, word, one, other):
    """Return the thing that a part tells that begins with word, one and other being the things of its formulas."""
    if word == "with":
        return outcome(table, one, other)
    if word == "behind":
        return behind(table, one, other)
    return ahead(table, one, other)


def holds(table, one, other):
    """Return the least tuple of things by which the two formulas tell unlike things, None if there is none."""
    standing = sorted(set(names_in(one) + names_in(other)))
    names = standing[-1] + 1
    refuse_tries(len(table), names)
    tuples = [()]
    for name in range(names):
        # The least tuple has the least thing for a name that stands in neither formula.
        many = len(table) if name in standing else 1
        tuples = [(*chosen, thing) for chosen in tuples for thing in range(many)]
    maps = {word: all_told(table, word) for word in WORDS}
    for things, first, second in zip(tuples, told_by_each(maps, tuples, one), told_by_each(maps, tuples, other)):
        if first != second:
            return things
    return None


def all_told(table, word):
    """Return the rows of what parts tell that begin with word, for all things of their formulas."""
    many = len(table)
    rows = [[0] * many for _ in range(many)]
    for x, row in enumerate(table):
        for y, z in enumerate(row):
            if word == "with":
                rows[x][y] = z
            elif word == "behind":
                rows[x][z] = y
            else:
                rows[y][z] = x
    return rows


def told_by_each(maps, tuples, formula):
    """Return the list of what the formula tells with each of the tuples of things."""
    return folded(
        formula,
        lambda name: [things[name] for things in tuples],
        lambda word, ones, others: [maps[word][one][other] for one, other in zip(ones, others)],
    )


def kinds(table):
    """Return the words that apply to the table, ascending."""
    things = range(len(table))
    found = []
    if is_grouped(table):
        found.append("grouped")
    if has_neutral(table):
        found.append("neutral")
    if all([table[x][x] == x for x in things]):
        found.append("own")
    if all([table[x][y] == table[y][x] for x in things for y in things]):
        found.append("turned")
    return tuple(found)


def is_grouped(table):
    """Return whether x with y, with z, is always x with what y gives with z."""
    for row in table:
        for out, other in zip(row, table):
            if list(table[out]) != [row[thing] for thing in other]:
                return False
    return True


def has_neutral(table):
    """Return whether some thing gives x with each thing x, ahead of it and behind it."""
    things = list(range(len(table)))
    return any([list(table[x]) == things and [row[x] for row in table] == things for x in things])
