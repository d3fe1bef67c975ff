"""Tables, facts and formulas turned: what stands at the places of an entry exchanged."""

from solvedbothsides.formulas import folded

# For each word: the places of an entry at which a part's two formulas stand, and the place that the part tells.
PLACES = {"with": (0, 1, 2), "behind": (0, 2, 1), "ahead": (1, 2, 0)}
# The word of a part that tells the place 0, 1 or 2; its two formulas stand at the other two places, ascending.
WORDS_TELLING = ("ahead", "behind", "with")


def turned(table, way):
    """Return the table of the entries of table turned this way."""
    rows = [[0] * len(table) for _ in table]
    for x, row in enumerate(table):
        for y, z in enumerate(row):
            one, other, out = turned_entry((x, y, z), way)
            rows[one][other] = out
    return tuple([tuple(row) for row in rows])


def turned_entry(entry, way):
    """Return the entry turned this way."""
    return tuple([entry[place] for place in way])


def turned_facts(facts, way):
    """Return the facts with their entries turned this way."""
    names, entries, unlike = facts
    return (names, tuple(sorted([turned_entry(entry, way) for entry in entries])), unlike)


def turned_formula(formula, way):
    """Return the formula that tells in the turned table what the formula tells in the table."""
    return folded(formula, lambda name: name, lambda word, one, other: turned_part(word, one, other, back(way)))


def turned_part(word, one, other, new_places):
    """Return the part that has one and other, and tells, at the new places of those at which a part with word does."""
    first, second, told = [new_places[place] for place in PLACES[word]]
    new_word = WORDS_TELLING[told]
    return (new_word, one, other) if first < second else (new_word, other, one)


def back(way):
    """Return the way that turns back."""
    return tuple([way.index(place) for place in range(3)])
