"""What several tests need, made by other ways than the program's: tables, formulas, worlds, and what must be one."""

import itertools
import random

T = ((0, 2, 1), (1, 0, 2), (2, 1, 0))
F = (4, ((0, 1, 2), (0, 3, 2)), ((0, 1),))
WORDS = ("with", "behind", "ahead")
# A formula of four levels, of size 15, of the names 0 to 7, each once, and with all three words.
BIG = (
    "with",
    ("behind", ("ahead", 0, 1), ("with", 2, 3)),
    ("ahead", ("with", 4, 5), ("behind", 6, 7)),
)
# Another one, with other words and the names the other way round.
OTHER_BIG = (
    "ahead",
    ("with", ("with", 7, 6), ("behind", 5, 4)),
    ("behind", ("behind", 3, 2), ("ahead", 1, 0)),
)
# Eight names and ten entries, and two names that all of the ten must be there for to be one thing.
LONG_CHAINS = (
    (
        ((0, 0, 2), (0, 6, 1), (1, 4, 6), (2, 6, 3), (4, 6, 3), (5, 1, 1), (6, 3, 6), (6, 5, 2), (7, 3, 4), (7, 4, 2)),
        (0, 6),
    ),
    (
        ((1, 7, 2), (2, 1, 0), (2, 4, 4), (2, 7, 5), (3, 0, 2), (3, 4, 5), (6, 0, 0), (6, 1, 1), (7, 0, 0), (7, 1, 2)),
        (1, 4),
    ),
    (
        ((1, 0, 4), (1, 6, 3), (2, 4, 2), (3, 4, 2), (3, 6, 6), (4, 0, 0), (4, 6, 2), (5, 3, 4), (5, 4, 6), (5, 5, 0)),
        (4, 6),
    ),
)
# Values that are no integer, no triple of integers, no table, no block and no formula, for every place.
ODD = (
    None, True, False, "", "0", "with", [], [0], [0, 1, 2], {}, {0: 1}, (), (None,), (True,), (0, 1, 2, 3), ((0,),),
    -1, -10 ** 59, 10 ** 59, ([0, 1, 2],), [(0, 1, 2)], ValueError("x"),
)


def lined(size, left, right, more):
    """Return the table in which x with y gives left * x + right * y + more, by the remainder."""
    return tuple(tuple((left * x + right * y + more) % size for y in range(size)) for x in range(size))


# In the last one no two of "with", "behind" and "ahead", whichever way round, tell the same.
TABLES = (((0,),), ((0, 1), (1, 0)), T, lined(5, 2, 3, 1))


def latin(size):
    """Return all tables of this size."""
    found = [()]
    for _ in range(size):
        found = [
            (*rows, row)
            for rows in found
            for row in itertools.permutations(range(size))
            if all(row[y] != above[y] for above in rows for y in range(size))
        ]
    return found


# All tables of one to three things.
SMALL_TABLES = tuple(table for size in (1, 2, 3) for table in latin(size))


def shuffled(rng, size):
    """Return a table of this size in no order."""
    rows, columns, things = (rng.sample(range(size), size) for _ in range(3))
    return tuple(tuple(things[(x + y) % size] for y in columns) for x in rows)


def is_table(table):
    """Return whether table is a table, by a look at each row and column."""
    if type(table) is not tuple or any(type(row) is not tuple for row in table):
        return False
    things = list(range(len(table)))
    whole = all(type(thing) is int for row in table for thing in row)
    return (
        whole and len(things) > 0
        and all(sorted(row) == things for row in table)
        and all(sorted(column) == things for column in zip(*table))
    )


def is_world(facts, value):
    """Return whether value is a world of the facts, by a look at each of them."""
    names, entries, unlike = facts
    if type(value) is not tuple or len(value) != 2:
        return False
    table, things = value
    if not is_table(table) or type(things) is not tuple or len(things) != names:
        return False
    return (
        all(type(thing) is int and 0 <= thing < len(table) for thing in things)
        and all(table[things[x]][things[y]] == things[z] for x, y, z in entries)
        and all(things[x] != things[y] for x, y in unlike)
    )


def small_worlds(facts):
    """Return all worlds of the facts with tables of one to three things."""
    return [
        (table, things)
        for table in SMALL_TABLES
        for things in itertools.product(range(len(table)), repeat=facts[0])
        if is_world(facts, (table, things))
    ]


def told(table, things, formula):
    """Return the thing that formula tells, sought in the table as the document describes it."""
    if isinstance(formula, int):
        return things[formula]
    one, other = (told(table, things, part) for part in formula[1:])
    if formula[0] == "with":
        return table[one][other]
    if formula[0] == "behind":
        return table[one].index(other)
    return [row[one] for row in table].index(other)


def by_hand(names, entries):
    """Return the least name that must be the same thing, for each name: entry against entry, then all again."""
    groups = [{name} for name in range(names)]

    def group(name):
        return next(found for found in groups if name in found)

    changed = True
    while changed:
        changed = False
        for one, other in itertools.combinations(entries, 2):
            unlike = [k for k in range(3) if group(one[k]) is not group(other[k])]
            if len(unlike) == 1:
                first, second = group(one[unlike[0]]), group(other[unlike[0]])
                first |= second
                groups.remove(second)
                changed = True
                break
    return tuple(min(group(name)) for name in range(names))


def formulas(names, size):
    """Return all formulas of this size of names below names."""
    if size == 1:
        return list(range(names))
    return [
        (word, one, other)
        for word in WORDS
        for first in range(1, size - 1)
        for one in formulas(names, first)
        for other in formulas(names, size - 1 - first)
    ]


def some_formula(rng, names, size):
    """Return a formula of this odd size of names below names."""
    if size == 1:
        return rng.randrange(names)
    first = rng.randrange(1, size - 1, 2)
    return (rng.choice(WORDS), some_formula(rng, names, first), some_formula(rng, names, size - 1 - first))


def some_facts(rng, names, entries, unlike):
    """Return facts of so many names, and at most so many entries and pairs, whether they have a world or not."""
    triples = {tuple(rng.randrange(names) for _ in range(3)) for _ in range(entries)}
    pairs = list(itertools.combinations(range(names), 2))
    return (names, tuple(sorted(triples)), tuple(sorted(rng.sample(pairs, min(unlike, len(pairs))))))


def facts_with_world(rng, names, entries, unlike, size):
    """Return facts that have a world with a table of this size."""
    table = shuffled(rng, size)
    things = [rng.randrange(size) for _ in range(names)]
    holding = [
        (x, y, z)
        for x, y, z in itertools.product(range(names), repeat=3)
        if table[things[x]][things[y]] == things[z]
    ]
    pairs = [(x, y) for x, y in itertools.combinations(range(names), 2) if things[x] != things[y]]
    return (
        names,
        tuple(sorted(rng.sample(holding, min(entries, len(holding))))),
        tuple(sorted(rng.sample(pairs, min(unlike, len(pairs))))),
    )


def many_facts(seed, many, greatest=8, only_with_world=False):
    """Return so many facts of 1 to so many names, some with few entries and some with many."""
    rng = random.Random(seed)
    found = []
    while len(found) < many:
        names = rng.randint(1, greatest)
        sizes = (names, rng.randint(0, 10), rng.randint(0, 6))
        facts = facts_with_world(rng, *sizes, rng.randint(1, 9)) if rng.random() < 0.5 else some_facts(rng, *sizes)
        leads = by_hand(names, facts[1])
        if not only_with_world or all(leads[x] != leads[y] for x, y in facts[2]):
            found.append(facts)
    return found


def chain(size, word="with", name=0, place=1):
    """Return a formula of this odd size with all its depth at one place (1 or 2)."""
    formula = name
    for _ in range(size // 2):
        formula = (word, formula, name) if place == 1 else (word, name, formula)
    return formula


def names_in(formula):
    """Return the list of the names in a formula, each as often as it stands there."""
    return [formula] if isinstance(formula, int) else names_in(formula[1]) + names_in(formula[2])


def paths(value, path=()):
    """Return the paths to all parts of a formula, each ahead of those in it, the first ahead of the second."""
    found = [path]
    if isinstance(value, tuple):
        for place in (1, 2):
            found += paths(value[place], path + (place,))
    return found


def item(formula, path):
    """Return the part of a formula at the end of path."""
    return item(formula[path[0]], path[1:]) if path else formula


def replaced(value, path, part):
    """Return value with part at the end of path."""
    if not path:
        return part
    place = path[0]
    return value[:place] + (replaced(value[place], path[1:], part),) + value[place + 1:]


def exact(value):
    """Return value with the kind of each part beside it, so that True is no 1 and a list no tuple."""
    if isinstance(value, (tuple, list)):
        return (type(value), [exact(part) for part in value])
    return (type(value), value)


def is_plain_value(value):
    """Return whether value is made of tuples, integers, strings, True, False and None alone."""
    if type(value) is tuple:
        return all(is_plain_value(part) for part in value)
    return value is None or type(value) in (int, str, bool)


# What a formula that does something and undoes it again becomes; letters stand for any formula.
UNDONE = (
    (("with", "a", ("behind", "a", "c")), "c"),
    (("with", ("ahead", "b", "c"), "b"), "c"),
    (("behind", "a", ("with", "a", "b")), "b"),
    (("behind", ("ahead", "b", "c"), "c"), "b"),
    (("ahead", "b", ("with", "a", "b")), "a"),
    (("ahead", ("behind", "a", "c"), "c"), "a"),
)


def matched(pattern, formula, letters):
    """Return letters with the formulas for which further letters stand, None if the formula is not of this pattern."""
    if pattern in ("a", "b", "c"):
        return {**letters, pattern: formula} if letters.get(pattern, formula) == formula else None
    if isinstance(formula, int) or formula[0] != pattern[0]:
        return None
    letters = matched(pattern[1], formula[1], letters)
    return None if letters is None else matched(pattern[2], formula[2], letters)


def filled(pattern, letters):
    """Return the formula of a pattern with formulas for its letters."""
    if isinstance(pattern, str):
        return letters[pattern]
    return (pattern[0], filled(pattern[1], letters), filled(pattern[2], letters))


def read_by_entry(leads, entries, formula):
    """Return the leads of the names that an entry tells for a formula of two names."""
    if isinstance(formula, int) or not (isinstance(formula[1], int) and isinstance(formula[2], int)):
        return []
    found = []
    for entry in entries:
        x, y, z = (leads[name] for name in entry)
        ways = {"with": (x, y, z), "behind": (x, z, y), "ahead": (y, z, x)}
        one, other, told_name = ways[formula[0]]
        if (one, other) == (leads[formula[1]], leads[formula[2]]):
            found.append(told_name)
    return found


def is_single_move(facts, one, other):
    """Return whether a single move leads from one formula to the other one, by a look at each part."""
    leads = by_hand(facts[0], facts[1])
    there = set(paths(other))
    for path in paths(one):
        if path in there and replaced(one, path, item(other, path)) == other:
            if is_move_of_the_whole(leads, facts[1], item(one, path), item(other, path)):
                return True
    return False


def is_move_of_the_whole(leads, entries, one, other):
    """Return whether a move takes one formula, and no part of it alone, and makes the other one of it."""
    if isinstance(one, int) and isinstance(other, int):
        return one != other and leads[one] == leads[other]
    for long, short in ((one, other), (other, one)):
        for pattern, letter in UNDONE:
            letters = matched(pattern, long, {})
            if letters is not None and letters[letter] == short:
                return True
        if isinstance(short, int) and leads[short] in read_by_entry(leads, entries, long):
            return True
    return False


def plain_by_hand(facts, formula, leads=None):
    """Return the plain form of a formula, made from within outwards."""
    leads = by_hand(facts[0], facts[1]) if leads is None else leads
    if isinstance(formula, int):
        return leads[formula]
    formula = (formula[0], *(plain_by_hand(facts, part, leads) for part in formula[1:]))
    for pattern, letter in UNDONE:
        letters = matched(pattern, formula, {})
        if letters is not None:
            return letters[letter]
    return next(iter(read_by_entry(leads, facts[1], formula)), formula)


def moved(rng, facts, formula, greatest=15):
    """Return what some move makes of some part of a formula, of at most this size; the formula if none was found."""
    leads = by_hand(facts[0], facts[1])
    path = rng.choice(paths(formula))
    part = item(formula, path)
    found = [letters[letter] for pattern, letter in UNDONE if (letters := matched(pattern, part, {})) is not None]
    if isinstance(part, int):
        found += [name for name in range(facts[0]) if name != part and leads[name] == leads[part]]
        for x, y, z in facts[1]:
            ways = ((("with", x, y), z), (("behind", x, z), y), (("ahead", y, z), x))
            found += [long for long, name in ways if leads[name] == leads[part]]
    found += [name for name in range(facts[0]) if leads[name] in read_by_entry(leads, facts[1], part)]
    for pattern, letter in UNDONE:
        letters = {other: some_formula(rng, facts[0], rng.choice((1, 1, 3))) for other in "abc"}
        found.append(filled(pattern, {**letters, letter: part}))
    made = replaced(formula, path, rng.choice(found))
    return made if len(paths(made)) <= greatest else formula
