"""What a desk answers to lines: each answer is made of a book and of the words behind the first one.

A line that is none that is answered is refused by BadText, as the words of a formula are.
"""

from solvedbothsides.errors import BadFormula, BadText
from solvedbothsides.facts import forcing, merged
from solvedbothsides.plain import plain
from solvedbothsides.shapes import are_below
from solvedbothsides.texts import facts_text, formula_by, formula_text, numbers_by, words_in
from solvedbothsides.worlds import verdict


def answer_note(book, words):
    """Return the answer to "note"."""
    one, other, out = numbers_in(words, 3)
    return done(book.note(one, other, out))


def answer_strike(book, words):
    """Return the answer to "strike"."""
    return done(book.strike(numbers_in(words, 1)[0]))


def answer_part(book, words):
    """Return the answer to "part"."""
    one, other = numbers_in(words, 2)
    return done(book.part(one, other))


def answer_drop(book, words):
    """Return the answer to "drop"."""
    return done(book.drop(numbers_in(words, 1)[0]))


def answer_claim(book, words):
    """Return the answer to "claim"."""
    one, other = two_formulas(book, words)
    return done(book.claim(one, other))


def answer_forget(book, words):
    """Return the answer to "forget"."""
    return done(book.forget(numbers_in(words, 1)[0]))


def answer_undo(book, words):
    """Return the answer to "undo"."""
    refuse_words(words)
    return done(book.undo())


def answer_verdict(book, words):
    """Return the answer to "verdict"."""
    one, other = two_formulas(book, words)
    return verdict(book.facts, one, other)


def answer_plain(book, words):
    """Return the answer to "plain"."""
    return formula_text(plain(book.facts, formula_by(book.facts[0], words)))


def answer_why(book, words):
    """Return the answer to "why"."""
    names = numbers_in(words, 2)
    if not are_below(names, book.facts[0]):
        raise BadFormula("name")
    one, other = names
    numbers = forcing(book.facts, one, other)
    return "unlike" if numbers is None else row_of(numbers)


def answer_merged(book, words):
    """Return the answer to "merged"."""
    refuse_words(words)
    return row_of(merged(book.facts))


def answer_told(book, words):
    """Return the answer to "told"."""
    refuse_words(words)
    return row_of(book.told())


def answer_changed(book, words):
    """Return the answer to "changed"."""
    refuse_words(words)
    return row_of(book.changed)


def answer_text(book, words):
    """Return the answer to "text"."""
    refuse_words(words)
    return facts_text(book.facts).replace("\n", " / ")


ANSWERS = {
    "note": answer_note,
    "strike": answer_strike,
    "part": answer_part,
    "drop": answer_drop,
    "claim": answer_claim,
    "forget": answer_forget,
    "undo": answer_undo,
    "verdict": answer_verdict,
    "plain": answer_plain,
    "why": answer_why,
    "merged": answer_merged,
    "told": answer_told,
    "changed": answer_changed,
    "text": answer_text,
}


def answer_to(book, line):
    """Return the answer to a line that is a string; raise BadText if it is none that is answered."""
    words = words_in(line)
    if not words or words[0] not in ANSWERS:
        raise BadText(0, 0)
    action = ANSWERS[words[0]]
    return action(book, words[1:])


def numbers_in(words, many):
    """Return the integers that the words are, of which there have to be so many."""
    return numbers_by((None,) * many, 0, words)


def refuse_words(words):
    """Raise BadText if there are any words."""
    numbers_in(words, 0)


def two_formulas(book, words):
    """Return the formulas of the words ahead of the only "is" and of those behind it."""
    if words.count("is") != 1:
        raise BadText(0, len(words))
    place = words.index("is")
    names = book.facts[0]
    # The first formula as a whole is refused ahead of the second one.
    one = formula_by(names, words[:place])
    return one, formula_by(names, words[place + 1:])


def row_of(items):
    """Return the items with single blanks between them, "nothing" if there are none."""
    return " ".join([str(item) for item in items]) if items else "nothing"


def done(version):
    """Return the answer to an edit or undo behind which the book has this version."""
    return f"ok {version}"
