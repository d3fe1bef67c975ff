"""Texts of formulas and of facts, and reading them back."""

from solvedbothsides.errors import BadFormula, BadText
from solvedbothsides.facts import refuse_no_facts
from solvedbothsides.formulas import WORDS, formula_error, parts
from solvedbothsides.shapes import is_whole

MAX_FIGURES = 4
# The words of a line, None in the place of each integer.
NAMES_LINE = ("names", None)
ENTRY_LINE = (None, "with", None, "gives", None)
PAIR_LINE = (None, "unlike", None)


def formula_text(formula):
    """Return the words and names of the formula in their order."""
    return " ".join([str(part) if is_whole(part) else part[0] for part in parts(formula)])


def facts_text(facts):
    """Return a line for the names, one for each entry and one for each pair of unlike names."""
    names, entries, unlike = facts
    entry_lines = [f"{x} with {y} gives {z}" for x, y, z in entries]
    pair_lines = [f"{one} unlike {other}" for one, other in unlike]
    return "\n".join([f"names {names}", *entry_lines, *pair_lines])


def read_formula(names, value):
    """Return the formula of names below names of which value is a text."""
    refuse_no_text(value)
    return formula_by(names, words_in(value))


def read_facts(value):
    """Return the facts of which value is a text."""
    refuse_no_text(value)
    entries = []
    unlike = []
    lines = [words_in(line) for line in value.split("\n")]
    names = numbers_by(NAMES_LINE, 0, lines[0])[0]
    for line, words in enumerate(lines[1:], 1):
        if words[1:2] == ["unlike"]:
            unlike.append(numbers_by(PAIR_LINE, line, words))
        else:
            entries.append(numbers_by(ENTRY_LINE, line, words))
    facts = (names, tuple(entries), tuple(unlike))
    refuse_no_facts(facts)
    return facts


def refuse_no_text(value):
    """Raise BadText if value is no string."""
    if not isinstance(value, str):
        raise BadText(None, None)


def words_in(text):
    """Return what stands between the blanks of text."""
    return [word for word in text.split(" ") if word != ""]


def is_number(word):
    """Return whether word is an integer as texts have it."""
    return word.isdigit() and len(word) <= MAX_FIGURES and (word == "0" or not word.startswith("0"))


def numbers_by(form, line, words):
    """Return the tuple of the integers in words, which have to be of this form; line is where they stand."""
    for place, word in enumerate(words):
        if place >= len(form) or not stands_for(form[place], word):
            raise BadText(line, place)
    if len(words) < len(form):
        raise BadText(line, len(words))
    return tuple([int(word) for word, wanted in zip(words, form) if wanted is None])


def stands_for(wanted, word):
    """Return whether word is the one that is wanted, or an integer if None is."""
    return is_number(word) if wanted is None else word == wanted


def formula_by(names, words):
    """Return the formula of names below names that has these words."""
    refuse_no_formula(words)
    made = []
    # Backwards, both formulas of a word are there when the word itself is reached, the first one on top.
    for word in words[::-1]:
        if word in WORDS:
            one = made.pop()
            other = made.pop()
            made.append((word, one, other))
        else:
            made.append(int(word))
    formula = made.pop()
    error_word = formula_error(names, formula)
    if error_word is not None:
        raise BadFormula(error_word)
    return formula


def refuse_no_formula(words):
    """Raise BadText if these are not the words of a formula, of whatever names and size."""
    lacking = 1
    for place, word in enumerate(words):
        if lacking == 0 or not (word in WORDS or is_number(word)):
            raise BadText(0, place)
        lacking += 1 if word in WORDS else -1
    if lacking > 0:
        raise BadText(0, len(words))
