"""Formulas: their size, what is wrong with a value in their place, and solving them for a name."""

from solvedbothsides.bounds import MAX_SIZE
from solvedbothsides.errors import NotOnce, Taken
from solvedbothsides.shapes import is_tuple, is_whole

WORDS = ("with", "behind", "ahead")


def size(formula):
    """Return how many names and words stand in formula."""
    return len(parts(formula))


def formula_error(names, value):
    """Return the word for the first part of value that is wrong, None if it is a formula of names below names."""
    found = parts(value)
    for part in found:
        word = part_error(names, part)
        if word is not None:
            return word
    return "size" if len(found) > MAX_SIZE else None


def solved(formula, name, out):
    """Return the formula that tells name where formula tells out."""
    names = names_in(formula)
    if names.count(name) != 1:
        raise NotOnce(name)
    if out in names:
        raise Taken(out)
    part = formula
    told = out
    while not is_whole(part):
        word, first, second = part
        if name in names_in(first):
            told = first_told(word, second, told)
            part = first
        else:
            told = second_told(word, first, told)
            part = second
    return told


def parts(value):
    """Return value and all parts in it, each ahead of the parts in it, the first formula's ahead of the second's."""
    found = []
    # A list of what is still to come, as a formula may be deeper than Python nests calls.
    waiting = [value]
    while waiting:
        part = waiting.pop()
        found.append(part)
        if is_tuple(part, 3):
            waiting.append(part[2])
            waiting.append(part[1])
    return found


def folded(formula, at_name, at_word):
    """Return what at_word makes of a formula's word and of what the two formulas in it come to, at_name of a name."""
    made = []
    # Backwards, what the parts in a part come to is there when the part itself is reached, the first one on top.
    for part in parts(formula)[::-1]:
        if is_whole(part):
            made.append(at_name(part))
        else:
            first = made.pop()
            second = made.pop()
            made.append(at_word(part[0], first, second))
    return made.pop()


def part_error(names, part):
    """Return the word for what is wrong with part, whatever the parts in it are; None if nothing is."""
    if is_whole(part):
        return None if 0 <= part < names else "name"
    if not is_tuple(part, 3):
        return "formula"
    word = part[0]
    return None if isinstance(word, str) and word in WORDS else "word"


def names_in(formula):
    """Return the list of the names in formula, each as often as it stands there."""
    return [part for part in parts(formula) if is_whole(part)]


def first_told(word, second, told):
    """Return what tells the first formula of a part that begins with word, has second, and tells told."""
    if word == "with":
        return ("ahead", second, told)
    if word == "behind":
        return ("ahead", told, second)
    return ("behind", told, second)


def second_told(word, first, told):
    """Return what tells the second formula of a part that begins with word, has first, and tells told."""
    if word == "with":
        return ("behind", first, told)
    if word == "behind":
        return ("with", first, told)
    return ("with", told, first)
