"""Single moves between formulas."""

from solvedbothsides.closing import readings
from solvedbothsides.facts import merged
from solvedbothsides.shapes import is_whole

# For a part's word: the word of the second formula, the place in it of what the first one is, and that of what is left.
SECOND_UNDONE = {"with": ("behind", 1, 2), "behind": ("with", 1, 2), "ahead": ("with", 2, 1)}
# For a part's word: the word of the first formula, the place in it of what the second one is, and that of what is left.
FIRST_UNDONE = {"with": ("ahead", 1, 2), "behind": ("ahead", 2, 1), "ahead": ("behind", 2, 1)}


def leads_and_reads(facts):
    """Return what merged tells, and a dict of what the entries tell by word and two names, all as merged tells them."""
    leads = merged(facts)
    reads = {}
    for entry in facts[1]:
        for word, one, other, told in readings(entry):
            reads[(word, leads[one], leads[other])] = leads[told]
    return leads, reads


def undone(formula):
    """Return what is left of a formula that does something and undoes it again, None if it does not."""
    if is_whole(formula):
        return None
    word, first, second = formula
    inner, same_place, left_place = SECOND_UNDONE[word]
    if starts_with(second, inner) and second[same_place] == first:
        return second[left_place]
    inner, same_place, left_place = FIRST_UNDONE[word]
    if starts_with(first, inner) and first[same_place] == second:
        return first[left_place]
    return None


def starts_with(formula, word):
    """Return whether the formula begins with this word."""
    return not is_whole(formula) and formula[0] == word


def told_by_entry(leads, reads, formula):
    """Return the name that an entry tells for a formula that is no name, as merged tells it; None if none does."""
    word, first, second = formula
    if not is_whole(first) or not is_whole(second):
        return None
    return reads.get((word, leads[first], leads[second]))


def shortened(leads, reads, formula):
    """Return what a move that makes it shorter makes of a whole formula that is no name, None if there is none."""
    left = undone(formula)
    return told_by_entry(leads, reads, formula) if left is None else left


def next_down(leads, reads, formula):
    """Return what a move makes of the formula towards the plain one, None if it is plain."""
    if is_whole(formula):
        return None if leads[formula] == formula else leads[formula]
    word, first, second = formula
    made = next_down(leads, reads, first)
    if made is not None:
        return (word, made, second)
    made = next_down(leads, reads, second)
    if made is not None:
        return (word, first, made)
    return shortened(leads, reads, formula)


def is_move(leads, reads, one, other):
    """Return whether a single move leads from one formula to the other one."""
    while True:
        if is_whole_move(leads, reads, one, other):
            return True
        if is_whole(one) or is_whole(other) or one[0] != other[0]:
            return False
        # A move within a part leaves the other part as it is.
        if one[1] == other[1]:
            one, other = one[2], other[2]
        elif one[2] == other[2]:
            one, other = one[1], other[1]
        else:
            return False


def is_whole_move(leads, reads, one, other):
    """Return whether a single move takes one formula as a whole, and no part of it, and makes the other one of it."""
    if is_whole(one) and is_whole(other):
        return one != other and leads[one] == leads[other]
    return is_shortening(leads, reads, one, other) or is_shortening(leads, reads, other, one)


def is_shortening(leads, reads, one, other):
    """Return whether a move makes other of one as a whole, and it is shorter."""
    if undone(one) == other:
        return True
    return is_whole(other) and told_by_entry(leads, reads, one) == leads[other]
