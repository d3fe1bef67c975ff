"""What several tests need: tables, all formulas of a size, and a way to tell a formula that is not the program's."""

T = ((0, 2, 1), (1, 0, 2), (2, 1, 0))
WORDS = ("with", "behind", "ahead")


def lined(size, left, right, more):
    """Return the table in which x with y gives left * x + right * y + more, by the remainder."""
    return tuple(tuple((left * x + right * y + more) % size for y in range(size)) for x in range(size))


# In the last one no two of "with", "behind" and "ahead", whichever way round, tell the same.
TABLES = (((0,),), ((0, 1), (1, 0)), T, lined(5, 2, 3, 1))


def told(table, things, formula):
    """Return the thing that formula tells, sought in the table as the document describes it."""
    if isinstance(formula, int):
        return things[formula]
    one, other = (told(table, things, part) for part in formula[1:])
    if formula[0] == "with":
        return table[one][other]
    if formula[0] == "behind":
        return table[one].index(other)
    return [row[one] for row in table].index(other)


def formulas(names, size):
    """Return all formulas of this size of names below names."""
    if size == 1:
        return list(range(names))
    return [
        (word, one, other)
        for word in WORDS
        for first in range(1, size - 1)
        for one in formulas(names, first)
        for other in formulas(names, size - 1 - first)
    ]


def chain(size, word="with", name=0, place=1):
    """Return a formula of this odd size with all its depth at one place (1 or 2)."""
    formula = name
    for _ in range(size // 2):
        formula = (word, formula, name) if place == 1 else (word, name, formula)
    return formula


def paths(value, path=()):
    """Return the paths to all parts of a formula, each ahead of those in it, the first ahead of the second."""
    found = [path]
    if isinstance(value, tuple):
        for place in (1, 2):
            found += paths(value[place], path + (place,))
    return found


def replaced(value, path, part):
    """Return value with part at the end of path."""
    if not path:
        return part
    place = path[0]
    return value[:place] + (replaced(value[place], path[1:], part),) + value[place + 1:]
