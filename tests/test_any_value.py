"""What accepts any value: it raises no error for it but those that its section names, and leaves it as it was."""

import itertools
import random
import unittest

from solvedbothsides.blocks import begun_error, block_error, grown
from solvedbothsides.books import Book
from solvedbothsides.desks import Desk
from solvedbothsides.errors import (
    BadFacts, BadFormula, BadSize, BadText, Full, NoClaim, NoEntry, NoPair, NoTable, NotOnce,
)
from solvedbothsides.facts import clash, facts_error
from solvedbothsides.formulas import formula_error
from solvedbothsides.givens import givens_error
from solvedbothsides.plain import is_road, road
from solvedbothsides.tables import table_error
from solvedbothsides.texts import facts_text, read_facts, read_formula
from solvedbothsides.worlds import world, world_error, world_of
from helper import BIG, F, T, chain, is_plain_value, lined

WORDS = ("with", "behind", "ahead", "note 0 0 0", "undo", "names 4", "0 unlike 1", "verdict 0 is 1", "claim 0 is 1")
# Objects of the package, and results of it.
BOOK = Book(F)
RESULTS = (
    BOOK, Desk(BOOK), NoEntry([0]), Full(), F, T, BIG, world(F), road(F, 1, 3), facts_text(F), ((0, None), (None, 0)),
    ((("with", 0, 1), ("with", 1, 0)), (("with", 0, 0), 0)), lined(60, 7, 11, 3), chain(15), (0, 1, 2), (0, 1),
    grown(((0, None), (None, 0)), 5),
)


def some_value(rng, depth):
    """Return any value, nested at most so many levels."""
    kind = rng.randrange(10 if depth > 0 else 5)
    if kind == 0:
        return rng.choice((None, True, False))
    if kind == 1:
        return rng.choice((0, 1, 2, 3, 7, 8, 15, 59, 60, 61, -1, 10 ** 59, -10 ** 59))
    if kind == 2:
        return rng.choice(WORDS)
    if kind == 3:
        return "".join(rng.choice(" \n~019wx") for _ in range(rng.randrange(12)))
    if kind == 4:
        return rng.choice(RESULTS)
    if kind == 5:
        return [some_value(rng, depth - 1) for _ in range(rng.randrange(4))]
    if kind == 6:
        return {str(number): some_value(rng, depth - 1) for number in range(rng.randrange(3))}
    if kind == 7:
        return altered(rng, rng.choice(RESULTS), depth)
    return tuple(some_value(rng, depth - 1) for _ in range(rng.choice((1, 2, 2, 3, 3, 3, 4))))


def altered(rng, value, depth):
    """Return a value with some part replaced, left out or put in."""
    if not isinstance(value, tuple) or not value or rng.random() < 0.2:
        return some_value(rng, depth - 1)
    place = rng.randrange(len(value))
    kind = rng.randrange(4)
    if kind == 0:
        return value[:place] + value[place + 1:]
    if kind == 1:
        return value[:place] + (some_value(rng, depth - 1),) + value[place:]
    return value[:place] + (altered(rng, value[place], depth),) + value[place + 1:]


def deep(depth, make, inner):
    for _ in range(depth):
        inner = make(inner)
    return inner


DEEP = [
    deep(12, make, inner)
    for make in (
        lambda inner: (inner,), lambda inner: (0, inner), lambda inner: [inner], lambda inner: {"a": inner},
        lambda inner: ("with", inner, 0), lambda inner: ("ahead", 0, inner), lambda inner: (4, inner, ()),
        lambda inner: (inner, (0,)),
    )
    for inner in (0, None, "with", ())
]


class AnyValue(unittest.TestCase):
    def values(self, seed, many):
        rng = random.Random(seed)
        return [some_value(rng, rng.choice((0, 1, 2, 3, 5))) for _ in range(many)] + DEEP + list(RESULTS)

    def told(self, found, words):
        """Check that what an error function returns is a pair of a number or None and one of these words, or None."""
        if found is not None:
            number, word = found
            self.assertTrue(number is None or type(number) is int and number >= 0)
            self.assertIn(word, words)

    def test_what_is_wrong(self):
        for value in self.values(1, 3000):
            before = repr(value)
            for names in (1, 4, 8):
                self.assertIn(formula_error(names, value), (None, "formula", "name", "word", "size"))
                self.told(givens_error(names, value), ("givens", "pair", "formula", "name", "word", "size"))
            self.told(facts_error(value), ("facts", "names", "entries", "entry", "unlike", "pair", "order"))
            self.told(table_error(value), ("table", "row", "column"))
            self.told(world_error(F, value), ("world", "table", "things", "entry", "unlike"))
            self.told(begun_error(value), ("square", "row", "column"))
            for size in (1, 3, 60):
                self.told(block_error(size, value), ("block", "row", "column"))
            self.assertIs(type(is_road(F, 1, 3, value)), bool)
            self.assertEqual(repr(value), before)

    def test_what_is_right_is_so(self):
        found = [0] * 6
        for value in self.values(2, 3000):
            rights = (
                formula_error(8, value) is None, givens_error(8, value) is None, facts_error(value) is None,
                table_error(value) is None, world_error(F, value) is None, begun_error(value) is None,
            )
            found = [count + right for count, right in zip(found, rights)]
            if any(rights):
                self.assertTrue(is_plain_value(value))
        self.assertGreater(min(found), 3, found)

    def refused(self, errors, function, *arguments):
        """Check that a call raises one of these errors, or none, and return whether it raised none."""
        try:
            function(*arguments)
        except Exception as error:
            self.assertIn(type(error), errors, arguments)
            return False
        return True

    def test_sizes(self):
        for value in self.values(3, 600):
            right = type(value) is int and 8 <= value <= 60
            self.assertIs(self.refused((BadSize,), world_of, F, value), right)
            right = type(value) is int and 4 <= value <= 60
            self.assertIs(self.refused((BadSize,), grown, ((0, None), (None, 0)), value), right)

    def test_texts(self):
        counts = [0, 0]
        for value in self.values(4, 3000):
            counts[self.refused((BadText, BadFormula), read_formula, 2, value)] += 1
            counts[self.refused((BadText, BadFacts), read_facts, value)] += 1
        self.assertGreater(min(counts), 20)

    def test_books(self):
        for value in self.values(5, 3000):
            right = facts_error(value) is None and clash(value) is None
            self.assertIs(self.refused((BadFacts, NoTable), Book, value), right)

    def test_edits(self):
        rng = random.Random(6)
        values = self.values(6, 1500)
        book = Book(F)
        for value in values:
            for _ in range(3):
                more = [rng.choice((rng.choice(values), rng.randrange(4))) for _ in range(2)]
                self.refused((BadFacts, NoTable, Full), book.note, value, *more)
                self.refused((BadFacts, NoTable, Full), book.part, value, more[0])
                self.refused((BadFormula, Full), book.claim, value, more[0])
                self.refused((BadFormula, Full), book.claim, more[0], value)
            for error, function in ((NoEntry, book.strike), (NoPair, book.drop), (NoClaim, book.forget)):
                self.refused((error, Full), function, value)
            right = type(value) is int and 0 <= value < len(book)
            self.assertIs(self.refused((NoEntry,), lambda: book[value]), right)
            self.assertIs(book == value, isinstance(value, Book) and (value.facts, value.claims) == (book.facts, ()))
            while book.version > 0:
                book.undo()
        self.assertEqual((book.facts, book.claims), (F, ()))

    def test_lines(self):
        book = Book(F)
        desk = Desk(book)
        for value in self.values(7, 3000):
            answer = desk.say(value)
            self.assertIs(type(answer), str)
            if not isinstance(value, str):
                self.assertEqual(answer, "what")
            self.assertEqual(desk.history[-1], (value if isinstance(value, str) else None, answer))

    def test_lines_of_words_that_belong_together(self):
        rng = random.Random(8)
        words = "note strike part drop claim forget undo verdict plain why merged told changed text is with ahead 0 1 9"
        desk = Desk(Book(F))
        kinds = set()
        for _ in range(3000):
            line = " ".join(rng.choice(words.split(" ")) for _ in range(rng.randint(1, 6)))
            kinds.add(desk.say(line).split(" ")[0])
        self.assertLessEqual({"ok", "no", "what", "nothing"}, kinds)

    def test_errors_take_any_values(self):
        for one, other in itertools.product(RESULTS, repeat=2):
            for error in (BadFacts, BadText, NoTable):
                self.assertEqual(len(vars(error(one, other))), 2)
            self.assertIs(NotOnce(one).name, one)


if __name__ == "__main__":
    unittest.main()
