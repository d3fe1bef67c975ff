import itertools
import random
import unittest

from solvedbothsides.books import Book
from solvedbothsides.bounds import MAX_CLAIMS, MAX_EDITS, MAX_ENTRIES, MAX_UNLIKE
from solvedbothsides.errors import (
    BadFacts, BadFormula, Full, NoClaim, NoEntry, NoPair, NoTable, NothingToUndo, TableError,
)
from solvedbothsides.facts import clash, facts_error
from solvedbothsides.formulas import formula_error
from solvedbothsides.worlds import verdict
from helper import BIG, F, LONG_CHAINS, ODD, OTHER_BIG, chain, exact, is_plain_value, many_facts, some_formula

FREE = (8, (), ())
WITHOUT = (3, ((0, 0, 1), (0, 2, 1)), ((0, 2),))
# Ten entries and six pairs that have a world.
FULL = (
    8,
    ((0, 0, 1), (0, 1, 2), (1, 0, 3), (1, 1, 0), (2, 3, 4), (3, 2, 4), (4, 5, 6), (5, 6, 7), (6, 7, 5), (7, 4, 1)),
    ((0, 1), (0, 2), (1, 7), (3, 4), (4, 6), (5, 7)),
)
NO_NUMBERS = [value for value in ODD if not (type(value) is int and value == 0)] + ["1", (0, 1)]


def state(book):
    """Return all that a book shows."""
    return exact((book.facts, book.claims, book.version, book.changed, book.told(), len(book), str(book)))


class Boom(Exception):
    """What a function raises of its own."""


class BookCase(unittest.TestCase):
    def refused(self, book, error, fields, method, *arguments):
        """Check that a call raises just this error with these fields in their order, and changes nothing."""
        before = state(book)
        for _ in range(2):
            with self.assertRaises(error) as caught:
                getattr(book, method)(*arguments)
            self.assertIs(type(caught.exception), error)
            self.assertEqual(exact(tuple(vars(caught.exception).values())), exact(fields), (method, arguments))
            self.assertEqual(state(book), before)


class Making(BookCase):
    def test_examples(self):
        book = Book(F)
        self.assertEqual(
            (book.claim(("with", 1, 0), 2), book.told(), book.note(1, 0, 2), book.told(), book.changed, str(book),
             book[0], book.undo(), book.changed),
            (1, ("open",), 2, ("always",), (0,), "3 entries, 1 unlike, 1 claims, version 2", (0, 1, 2), 1, (0,)),
        )

    def test_at_first(self):
        for facts in (F, FREE, FULL, (1, (), ()), (1, ((0, 0, 0),), ())):
            book = Book(facts=facts)
            self.assertEqual(exact(book.facts), exact(facts))
            self.assertEqual(exact((book.claims, book.version, book.changed, book.told())), exact(((), 0, (), ())))

    def test_no_facts(self):
        wrong = ODD + (
            list(F), (4, list(F[1]), F[2]), (4, F[1], list(F[2])), (9, (), ()), (0, (), ()), (True, (), ()),
            (4, F[1][::-1], F[2]), (4, F[1], ((1, 0),)), (4, F[1], ((0, 1), (0, 1))), (4, ((0, 1, 4),), ()),
            (4, ((0, True, 2),), ()), (8, FULL[1] + ((7, 7, 7),), ()), (8, (), FULL[2] + ((6, 7),)), Book(F), [Book(F)],
        )
        words = set()
        for value in wrong:
            number, word = facts_error(value)
            words.add(word)
            with self.assertRaises(BadFacts) as caught:
                Book(value)
            self.assertIsInstance(caught.exception, TableError)
            self.assertEqual(exact((caught.exception.number, caught.exception.word)), exact((number, word)), value)
        self.assertEqual(words, {"facts", "names", "entries", "entry", "order", "unlike", "pair"})

    def test_no_table(self):
        for facts in (WITHOUT, (8, LONG_CHAINS[0][0], ((0, 6),)), (8, LONG_CHAINS[0][0], ((0, 1), (0, 6)))):
            with self.assertRaises(NoTable) as caught:
                Book(facts)
            self.assertEqual((caught.exception.pair, caught.exception.numbers), clash(facts))

    def test_bad_facts_ahead_of_no_table(self):
        with self.assertRaises(BadFacts) as caught:
            Book((3, WITHOUT[1], ((0, 2), (0, 2))))
        self.assertEqual((caught.exception.number, caught.exception.word), (1, "order"))

    def test_properties_can_only_be_read(self):
        book = Book(F)
        book.claim(0, 1)
        before = state(book)
        for name in ("facts", "claims", "version", "changed"):
            self.assertRaises(AttributeError, setattr, book, name, ())
            self.assertRaises(AttributeError, delattr, book, name)
        self.assertEqual(state(book), before)

    def test_kinds_of_what_is_told(self):
        book = Book(FULL)
        for _ in range(4):
            book.claim(BIG, OTHER_BIG)
        book.forget(0)
        for value in (book.facts, book.claims, book.version, book.changed, book.told(), book[0], len(book), str(book)):
            self.assertTrue(is_plain_value(value))
        self.assertIs(type(book.undo()), int)

    def test_two_books_of_the_same_facts(self):
        one, other = Book(F), Book(F)
        one.note(1, 1, 1)
        one.claim(0, 1)
        self.assertEqual((other.facts, other.claims, other.version), (F, (), 0))


class Note(BookCase):
    def test_an_entry_more(self):
        book = Book(F)
        self.assertEqual(book.note(0, 2, 0), 1)
        self.assertEqual(book.facts, (4, ((0, 1, 2), (0, 2, 0), (0, 3, 2)), ((0, 1),)))
        self.assertEqual(book.note(one=3, other=3, out=3), 2)
        self.assertEqual(book.note(2, 0, 0), 3)
        self.assertEqual(book.facts[1], ((0, 1, 2), (0, 2, 0), (0, 3, 2), (2, 0, 0), (3, 3, 3)))
        self.assertEqual(book.facts[2], ((0, 1),))

    def test_no_triple_of_names(self):
        book = Book(F)
        for value in NO_NUMBERS + [4, 5, 100]:
            if not (type(value) is int and 0 <= value < 4):
                for place in range(3):
                    entry = [3, 3, 3]
                    entry[place] = value
                    self.refused(book, BadFacts, (None, "entry"), "note", *entry)
        self.refused(book, BadFacts, (None, "entry"), "note", 9, None, [])

    def test_among_the_entries(self):
        book = Book(F)
        for entry in F[1]:
            self.refused(book, BadFacts, (None, "entry"), "note", *entry)
        book.note(2, 2, 2)
        self.refused(book, BadFacts, (None, "entry"), "note", 2, 2, 2)
        book.strike(2)
        self.assertEqual(book.note(2, 2, 2), 3)

    def test_too_many_entries(self):
        book = Book(FREE)
        for number in range(MAX_ENTRIES):
            self.assertEqual(book.note(number % 8, number // 8, 0), number + 1)
        self.refused(book, BadFacts, (None, "entries"), "note", 7, 7, 7)
        book.undo()
        self.assertEqual(book.note(7, 7, 7), MAX_ENTRIES)

    def test_no_table(self):
        book = Book(F)
        self.refused(book, NoTable, clash((4, ((0, 0, 2), *F[1]), F[2])), "note", 0, 0, 2)
        self.refused(book, NoTable, (0, (0, 1)), "note", 0, 0, 2)
        # It tells the numbers that the entries would have.
        book = Book((4, ((0, 0, 0), (1, 2, 3)), ((0, 1), (2, 3))))
        self.refused(book, NoTable, (1, (1, 2)), "note", 1, 3, 3)
        self.refused(book, NoTable, (0, (0, 1)), "note", 0, 1, 0)

    def test_two_faults(self):
        book = Book(FULL)
        self.refused(book, BadFacts, (None, "entry"), "note", *FULL[1][0])
        self.refused(book, BadFacts, (None, "entry"), "note", 8, 0, 0)
        # That there would be no table comes last.
        self.refused(book, BadFacts, (None, "entries"), "note", 0, 2, 1)
        book.strike(9)
        found = clash((8, tuple(sorted(FULL[1][:9] + ((0, 2, 1),))), FULL[2]))
        self.assertEqual(found, (1, (0, 2)))
        self.refused(book, NoTable, found, "note", 0, 2, 1)


class Strike(BookCase):
    def test_an_entry_less(self):
        book = Book(FULL)
        self.assertEqual(book.strike(3), 1)
        self.assertEqual(book.facts, (8, FULL[1][:3] + FULL[1][4:], FULL[2]))
        self.assertEqual(book.strike(number=8), 2)
        self.assertEqual(book.strike(0), 3)
        self.assertEqual(book.facts, (8, FULL[1][1:3] + FULL[1][4:9], FULL[2]))

    def test_no_entry(self):
        book = Book(F)
        for number in NO_NUMBERS + [2, 3, 10, -1, -2, True, False, (0,), [0], "0", Book(F)]:
            self.refused(book, NoEntry, (number,), "strike", number)
        empty = Book(FREE)
        self.refused(empty, NoEntry, (0,), "strike", 0)
        self.assertNotIsInstance(NoEntry(0), ValueError)

    def test_what_is_always_so_need_not_be_there(self):
        # What names are by merged is what it is by the entries that are left.
        book = Book((4, F[1], ()))
        book.claim(1, 3)
        self.assertEqual(book.told(), ("always",))
        book.strike(0)
        self.assertEqual((book.told(), book.changed), (("open",), (0,)))


class Part(BookCase):
    def test_a_pair_more(self):
        book = Book(F)
        self.assertEqual(book.part(2, 3), 1)
        self.assertEqual(book.part(one=0, other=2), 2)
        self.assertEqual(book.facts, (4, F[1], ((0, 1), (0, 2), (2, 3))))

    def test_no_pair_of_names(self):
        book = Book(F)
        for value in NO_NUMBERS + [4, 5, 100]:
            self.refused(book, BadFacts, (None, "pair"), "part", 3, value)
            self.refused(book, BadFacts, (None, "pair"), "part", value, value)
            if not (type(value) is int and 0 <= value < 2):
                self.refused(book, BadFacts, (None, "pair"), "part", value, 2)
        for one, other in ((1, 0), (3, 1), (0, 0), (3, 3), (False, True), (0, True)):
            self.refused(book, BadFacts, (None, "pair"), "part", one, other)

    def test_among_the_pairs(self):
        book = Book(F)
        self.refused(book, BadFacts, (None, "pair"), "part", 0, 1)
        book.part(0, 2)
        self.refused(book, BadFacts, (None, "pair"), "part", 0, 2)

    def test_too_many_pairs(self):
        book = Book(FREE)
        for number in range(MAX_UNLIKE):
            self.assertEqual(book.part(0, number + 1), number + 1)
        self.refused(book, BadFacts, (None, "unlike"), "part", 0, 7)
        book.drop(0)
        self.assertEqual(book.part(0, 7), 8)

    def test_no_table(self):
        book = Book(F)
        self.refused(book, NoTable, (1, (0, 1)), "part", 1, 3)
        book.part(0, 2)
        self.refused(book, NoTable, (2, (0, 1)), "part", 1, 3)
        book.drop(0)
        book.drop(0)
        self.refused(book, NoTable, (0, (0, 1)), "part", 1, 3)

    def test_two_faults(self):
        # Six pairs, and names 1 and 2 that must be one thing.
        facts = (8, ((0, 1, 3), (0, 2, 3)), ((0, 4), (0, 5), (0, 6), (0, 7), (4, 5), (6, 7)))
        book = Book(facts)
        self.refused(book, BadFacts, (None, "pair"), "part", 0, 4)
        self.refused(book, BadFacts, (None, "pair"), "part", 2, 1)
        self.refused(book, BadFacts, (None, "unlike"), "part", 1, 2)
        book.drop(5)
        self.refused(book, NoTable, (4, (0, 1)), "part", 1, 2)


class Drop(BookCase):
    def test_a_pair_less(self):
        book = Book(FULL)
        self.assertEqual(book.drop(1), 1)
        self.assertEqual(book.drop(number=4), 2)
        self.assertEqual(book.facts, (8, FULL[1], (FULL[2][0], *FULL[2][2:5])))

    def test_no_pair(self):
        book = Book(F)
        for number in NO_NUMBERS + [1, 2, 10, -1, True, False, (0,), [0], "0"]:
            self.refused(book, NoPair, (number,), "drop", number)
        book.drop(0)
        self.refused(book, NoPair, (0,), "drop", 0)


class Claim(BookCase):
    def test_a_claim_more(self):
        book = Book(F)
        self.assertEqual(book.claim(("with", 1, 0), 2), 1)
        self.assertEqual(book.claim(one=0, other=("with", 0, 0)), 2)
        self.assertEqual(book.claim(0, 0), 3)
        self.assertEqual(book.claims, ((("with", 1, 0), 2), (0, ("with", 0, 0)), (0, 0)))
        self.assertEqual(book.told(), ("open", "open", "always"))

    def test_told_is_what_verdict_tells(self):
        counts = {"always": 0, "never": 0, "open": 0}
        for facts in many_facts(1, 60, only_with_world=True):
            rng = random.Random(str(facts))
            book = Book(facts)
            for size in (1, 3, 5, 15):
                book.claim(some_formula(rng, facts[0], size), some_formula(rng, facts[0], rng.choice((1, 3))))
            right = tuple(verdict(facts, one, other) for one, other in book.claims)
            self.assertEqual(book.told(), right)
            for word in right:
                counts[word] += 1
        self.assertGreater(min(counts.values()), 10, counts)

    def test_bad_formula(self):
        book = Book(F)
        words = set()
        for value in ODD + (4, ("with", 0, 4), ("with", 0), ("with", 0, True), ("x", 0, 0), chain(17), ["with", 0, 0]):
            word = formula_error(4, value)
            words.add(word)
            self.refused(book, BadFormula, (word,), "claim", value, 0)
            self.refused(book, BadFormula, (word,), "claim", 0, value)
        self.assertEqual(words, {"formula", "name", "word", "size"})

    def test_the_first_formula_ahead_of_the_second_one(self):
        book = Book(F)
        wrong = {"name": 4, "formula": None, "word": ("x", 0, 0), "size": chain(17)}
        for word, other in itertools.permutations(wrong, 2):
            self.refused(book, BadFormula, (word,), "claim", wrong[word], wrong[other])

    def test_too_many_claims(self):
        book = Book(F)
        for number in range(MAX_CLAIMS):
            self.assertEqual(book.claim(number, 0), number + 1)
        self.refused(book, BadFormula, ("claims",), "claim", 0, 1)
        # What is wrong with the formulas comes ahead.
        self.refused(book, BadFormula, ("name",), "claim", 4, 0)
        self.refused(book, BadFormula, ("formula",), "claim", 0, None)
        self.refused(book, BadFormula, ("size",), "claim", 0, chain(17))
        book.forget(1)
        self.assertEqual(book.claim(1, 3), 6)
        self.assertEqual(book.claims, ((0, 0), (2, 0), (3, 0), (1, 3)))


class Forget(BookCase):
    def test_a_claim_less(self):
        book = Book(F)
        for number in range(4):
            book.claim(number, 0)
        self.assertEqual(book.forget(2), 5)
        self.assertEqual(book.forget(number=0), 6)
        self.assertEqual(book.claims, ((1, 0), (3, 0)))

    def test_no_claim(self):
        book = Book(F)
        self.refused(book, NoClaim, (0,), "forget", 0)
        book.claim(0, 1)
        for number in NO_NUMBERS + [1, 2, 10, -1, True, False, (0,), [0], "0"]:
            self.refused(book, NoClaim, (number,), "forget", number)


class FullBook(BookCase):
    def filled(self):
        """Return a book with as many edits in effect as there can be."""
        book = Book(F)
        for number in range(10):
            self.assertEqual(book.note(3, 3, 3), 2 * number + 1)
            self.assertEqual(book.strike(2), 2 * number + 2)
        return book

    def test_full_ahead_of_all_else(self):
        book = self.filled()
        for method, several in (
            ("note", ((3, 3, 3), (0, 0, 2), (0, 1, 2), (None, None, None))), ("strike", ((0,), (9,), (None,))),
            ("part", ((0, 2), (1, 3), (0, 1), (1, 0))), ("drop", ((0,), (9,), ([],))),
            ("claim", ((0, 0), (None, 0), (0, 9))), ("forget", ((0,), (9,))),
        ):
            for arguments in several:
                self.refused(book, Full, (), method, *arguments)

    def test_undo_makes_room(self):
        book = self.filled()
        self.assertEqual(book.version, MAX_EDITS)
        self.assertEqual(book.undo(), MAX_EDITS - 1)
        self.assertEqual(book.claim(0, 0), MAX_EDITS)
        self.refused(book, Full, (), "claim", 0, 0)
        for version in range(MAX_EDITS - 1, -1, -1):
            self.assertEqual(book.undo(), version)
        self.assertEqual((book.facts, book.claims), (F, ()))
        for number in range(MAX_EDITS):
            self.assertEqual(book.part(0, 2) if number % 2 == 0 else book.drop(1), number + 1)

    def test_refused_edits_are_not_counted(self):
        book = Book(F)
        for _ in range(30):
            self.assertRaises(NoEntry, book.strike, 2)
            self.assertRaises(NoTable, book.note, 0, 0, 2)
        self.assertEqual(book.version, 0)
        self.filled()


class Undo(BookCase):
    def test_nothing_to_undo(self):
        book = Book(F)
        self.refused(book, NothingToUndo, (), "undo")
        book.claim(0, 0)
        book.undo()
        self.refused(book, NothingToUndo, (), "undo")

    def test_one_by_one(self):
        book = Book(F)
        edits = (
            ("note", 1, 0, 2), ("claim", ("with", 1, 0), 2), ("part", 0, 2), ("claim", 1, 3), ("strike", 0),
            ("drop", 0), ("claim", 0, 0), ("forget", 1), ("note", 0, 0, 0), ("forget", 0), ("strike", 2),
        )
        shown = []
        for version, (method, *arguments) in enumerate(edits):
            shown.append(exact((book.facts, book.claims, book.version, book.told())))
            self.assertEqual(getattr(book, method)(*arguments), version + 1)
        for version in range(len(edits) - 1, -1, -1):
            self.assertEqual(book.undo(), version)
            self.assertEqual(exact((book.facts, book.claims, book.version, book.told())), shown.pop())
        self.refused(book, NothingToUndo, (), "undo")

    def test_what_was_undone_is_gone(self):
        book = Book(F)
        book.note(1, 1, 1)
        book.note(2, 2, 2)
        book.undo()
        book.note(3, 3, 3)
        self.assertEqual(book.facts[1], (*F[1], (1, 1, 1), (3, 3, 3)))
        book.undo()
        self.assertEqual(book.facts[1], (*F[1], (1, 1, 1)))


class Changed(BookCase):
    def book(self):
        """Return a book with three claims, of which the first two are equal and open, and the last one is always so."""
        book = Book(F)
        book.claim(("with", 1, 0), 2)
        book.claim(("with", 1, 0), 2)
        book.claim(1, 3)
        return book

    def test_a_claim_that_came(self):
        book = Book(F)
        book.claim(0, 1)
        self.assertEqual(book.changed, (0,))
        book.claim(0, 1)
        self.assertEqual(book.changed, (1,))
        book.claim(2, 2)
        self.assertEqual(book.changed, (2,))
        book.undo()
        self.assertEqual(book.changed, ())

    def test_what_verdict_tells_else(self):
        book = self.book()
        book.note(1, 0, 2)
        self.assertEqual((book.told(), book.changed), (("always",) * 3, (0, 1)))
        book.note(2, 2, 2)
        self.assertEqual(book.changed, ())
        book.undo()
        self.assertEqual(book.changed, ())
        book.undo()
        self.assertEqual((book.told(), book.changed), (("open", "open", "always"), (0, 1)))
        book.strike(1)
        self.assertEqual((book.told(), book.changed), (("open",) * 3, (2,)))
        book.part(1, 3)
        self.assertEqual((book.told(), book.changed), (("open", "open", "never"), (2,)))
        book.drop(1)
        self.assertEqual((book.told(), book.changed), (("open",) * 3, (2,)))

    def test_forgotten_claims(self):
        book = self.book()
        book.note(1, 0, 2)
        # The other claims are what they were, though their numbers are others now.
        book.forget(0)
        self.assertEqual((book.claims, book.changed), (((("with", 1, 0), 2), (1, 3)), ()))
        book.forget(1)
        self.assertEqual((book.told(), book.changed), (("always",), ()))
        book.strike(2)
        self.assertEqual((book.told(), book.changed), (("open",), (0,)))

    def test_what_undo_brings_back(self):
        for number in range(3):
            book = self.book()
            book.forget(number)
            self.assertEqual(book.changed, ())
            book.undo()
            self.assertEqual(book.changed, (number,))
            self.assertEqual(book.told(), ("open", "open", "always"))

    def test_equal_claims_are_told_apart(self):
        book = self.book()
        book.forget(0)
        book.claim(("with", 1, 0), 2)
        self.assertEqual((book.claims[0], book.claims[2], book.changed), (book.claims[0], book.claims[0], (2,)))
        book.undo()
        self.assertEqual(book.changed, ())
        book.undo()
        # The first of the two equal claims has come back, not the second one.
        self.assertEqual(book.changed, (0,))
        book.undo()
        self.assertEqual((len(book.claims), book.changed), (2, ()))

    def test_a_claim_that_takes_the_number_of_another(self):
        book = Book(F)
        book.claim(0, 1)
        book.claim(1, 3)
        book.undo()
        book.claim(1, 1)
        self.assertEqual((book.told(), book.changed), (("never", "always"), (1,)))
        book.forget(0)
        self.assertEqual((book.told(), book.changed), (("always",), ()))
        book.undo()
        self.assertEqual((book.told(), book.changed), (("never", "always"), (0,)))

    def test_what_is_refused_leaves_it(self):
        book = self.book()
        book.note(1, 0, 2)
        for method, *arguments in (
            ("note", 0, 0, 2), ("note", 0, 1, 2), ("strike", 9), ("part", 1, 0), ("part", 1, 3), ("drop", 9),
            ("claim", 9, 9), ("forget", 9),
        ):
            self.assertRaises((TableError, LookupError), getattr(book, method), *arguments)
            self.assertEqual(book.changed, (0, 1))

    def test_undo_refused_leaves_it(self):
        book = Book(F)
        book.claim(0, 1)
        book.undo()
        self.assertEqual(book.changed, ())
        self.assertRaises(NothingToUndo, book.undo)
        self.assertEqual(book.changed, ())


class Tried(BookCase):
    def test_what_function_returns(self):
        book = Book(F)
        for value in (None, [1, [2]], {"a": book}, (1,), Boom(), 1.5, "x", book, self):
            seen = []

            def function(given):
                seen.append(given)
                return value

            self.assertIs(book.tried(function), value)
            self.assertEqual(len(seen), 1)
            self.assertIs(seen[0], book)
        self.assertEqual(book.tried(function=len), 2)
        self.assertEqual(book.tried(str), "2 entries, 1 unlike, 0 claims, version 0")

    def edited(self):
        book = Book(F)
        book.claim(("with", 1, 0), 2)
        book.note(2, 2, 2)
        book.claim(1, 3)
        return book

    def wild(self, book):
        """Edit a book in all ways."""
        book.note(1, 0, 2)
        book.forget(0)
        book.undo()
        book.undo()
        book.part(0, 2)
        book.drop(0)
        book.strike(0)
        book.claim(2, 2)
        return state(book)

    def test_the_book_stands_as_it_was(self):
        book = self.edited()
        before = state(book)
        for _ in range(3):
            self.assertNotEqual(book.tried(self.wild), before)
            self.assertEqual(state(book), before)
        # The edits in effect are those that were.
        self.assertEqual([book.undo(), book.undo(), book.undo()], [2, 1, 0])
        self.assertEqual(book.facts, F)
        self.refused(book, NothingToUndo, (), "undo")

    def test_undo_of_all_within(self):
        book = self.edited()
        before = state(book)

        def function(given):
            while given.version > 0:
                given.undo()
            self.assertRaises(NothingToUndo, given.undo)
            for number in range(MAX_EDITS):
                given.note(3, 3, 3) if number % 2 == 0 else given.strike(2)
            self.assertRaises(Full, given.claim, 0, 0)
            return given.version

        self.assertEqual(book.tried(function), MAX_EDITS)
        self.assertEqual(state(book), before)
        self.assertEqual(book.undo(), 2)

    def test_changed_is_put_back(self):
        book = self.edited()
        self.assertEqual(book.changed, (1,))
        book.tried(lambda given: given.note(1, 0, 2))
        self.assertEqual(book.changed, (1,))
        # It is told by what stood there ahead of the call.
        book.note(1, 0, 2)
        self.assertEqual(book.changed, (0,))

    def test_what_function_raises_goes_on(self):
        book = self.edited()
        before = state(book)
        raised = Boom()

        def function(given):
            self.wild(given)
            raise raised

        for _ in range(2):
            with self.assertRaises(Boom) as caught:
                book.tried(function)
            self.assertIs(caught.exception, raised)
            self.assertEqual(state(book), before)
        with self.assertRaises(NoEntry):
            book.tried(lambda given: (self.wild(given), given.strike(99)))
        self.assertEqual(state(book), before)
        with self.assertRaises(KeyboardInterrupt):
            book.tried(self.interrupted)
        self.assertEqual(state(book), before)

    def interrupted(self, book):
        self.wild(book)
        raise KeyboardInterrupt

    def test_the_book_alone_is_put_back(self):
        book, other, noted = self.edited(), Book(F), []

        def function(given):
            given.strike(0)
            other.strike(0)
            noted.append(given.version)

        self.assertIsNone(book.tried(function))
        self.assertEqual((book.version, other.version, noted), (3, 1, [4]))
        self.assertRaises(Boom, book.tried, lambda given: (other.strike(0), self.boom()))
        self.assertEqual((book.version, other.version, len(other)), (3, 2, 0))

    def boom(self):
        raise Boom()

    def test_within_each_other(self):
        book = self.edited()
        before = state(book)
        shown = []

        def deeper(depth):
            def function(given):
                if depth <= 17:
                    given.part(0, 2) if depth % 2 == 1 else given.drop(1)
                within = state(given)
                if depth < 20:
                    self.assertEqual(given.tried(deeper(depth + 1)), depth + 1)
                    # What the deeper one did is taken back, what this one did is not.
                    self.assertEqual(state(given), within)
                shown.append(given.version)
                return depth
            return function

        self.assertEqual(book.tried(deeper(1)), 1)
        self.assertEqual(shown, [20, 20, 20] + list(range(20, 3, -1)))
        self.assertEqual(state(book), before)

    def test_twenty_deep_and_raising(self):
        book = self.edited()
        before = state(book)
        caught = []

        def deeper(depth):
            def function(given):
                if depth <= 17:
                    given.part(0, 2) if depth % 2 == 1 else given.drop(1)
                within = state(given)
                if depth < 20:
                    try:
                        given.tried(deeper(depth + 1))
                    except Boom:
                        caught.append(depth)
                self.assertEqual(state(given), within)
                raise Boom()
            return function

        self.assertRaises(Boom, book.tried, deeper(1))
        self.assertEqual(caught, list(range(19, 0, -1)))
        self.assertEqual(state(book), before)

    def test_claims_within_and_behind(self):
        book = self.edited()
        book.tried(lambda given: (given.forget(0), given.claim(0, 1)))
        book.claim(0, 2)
        self.assertEqual(book.changed, (2,))
        book.undo()
        self.assertEqual(book.changed, ())
        self.assertEqual(book.told(), ("open", "always"))


class Operators(BookCase):
    def test_entries(self):
        book = Book(FULL)
        for number in range(10):
            self.assertEqual(exact(book[number]), exact(FULL[1][number]))
        book.strike(0)
        self.assertEqual(book[0], FULL[1][1])
        self.assertEqual(book[8], FULL[1][9])

    def test_no_entry(self):
        book = Book(F)
        for number in NO_NUMBERS + [2, 3, 10 ** 59, -1, -2, True, False, None, (0,), [0], {}, "0", Book(F)]:
            with self.assertRaises(NoEntry) as caught:
                book[number]
            self.assertIs(caught.exception.number, number)
        self.assertRaises(NoEntry, lambda: Book(FREE)[0])

    def test_how_many_entries(self):
        book = Book(F)
        self.assertEqual(len(book), 2)
        book.note(3, 3, 3)
        book.part(0, 2)
        book.claim(0, 0)
        self.assertEqual(len(book), 3)
        self.assertEqual((len(Book(FREE)), len(Book(FULL))), (0, 10))

    def test_text(self):
        self.assertEqual(str(Book(FREE)), "0 entries, 0 unlike, 0 claims, version 0")
        book = Book((8, ((0, 0, 0),), ((0, 1),)))
        book.claim(0, 0)
        self.assertEqual(str(book), "1 entries, 1 unlike, 1 claims, version 1")
        self.assertEqual(str(Book(FULL)), "10 entries, 6 unlike, 0 claims, version 0")

    def equal(self, one, other, right):
        self.assertIs(one == other, right)
        self.assertIs(other == one, right)
        self.assertIs(one != other, not right)
        self.assertIs(other != one, not right)

    def test_which_are_equal(self):
        one, other = Book(F), Book(F)
        self.equal(one, other, True)
        self.equal(one, one, True)
        one.claim(0, 1)
        self.equal(one, other, False)
        other.note(3, 3, 3)
        other.claim(0, 1)
        self.equal(one, other, False)
        other.strike(2)
        # How many edits are in effect, and what has changed, does not matter.
        self.equal(one, other, True)
        one.claim(1, 0)
        other.claim(0, 2)
        self.equal(one, other, False)
        other.undo()
        other.claim(1, 0)
        self.equal(one, other, True)
        one.forget(0)
        other.forget(1)
        self.equal(one, other, False)

    def test_the_order_of_claims(self):
        one, other = Book(F), Book(F)
        one.claim(0, 1)
        one.claim(1, 2)
        other.claim(1, 2)
        other.claim(0, 1)
        self.equal(one, other, False)

    def test_facts_alike_are_not_equal(self):
        self.equal(Book((2, ((0, 0, 0),), ())), Book((2, ((0, 0, 1),), ())), False)
        self.equal(Book((2, (), ())), Book((3, (), ())), False)
        self.equal(Book((2, (), ((0, 1),))), Book((2, (), ())), False)
        # These have the same worlds.
        self.equal(Book((4, ((0, 0, 1), (0, 0, 2)), ((1, 3),))), Book((4, ((0, 0, 1), (0, 0, 2)), ((2, 3),))), False)

    def test_no_books(self):
        book = Book(F)
        for value in ODD + (F, (F, ()), str(book), [book], (book,), {"facts": F, "claims": ()}, Full()):
            self.equal(book, value, False)
        self.assertEqual(state(book), state(Book(F)))


class Model:
    """A book kept in another way: each claim is an object of its own, and each edit keeps what was."""

    def __init__(self, facts):
        self.facts, self.claims, self.past, self.changed = facts, [], [], ()

    def told(self):
        return tuple(verdict(self.facts, *claim) for claim in self.claims)

    def turn(self, facts, claims):
        before = {id(claim): word for claim, word in zip(self.claims, self.told())}
        kept = self.claims
        self.facts, self.claims = facts, claims
        self.changed = tuple(
            number for number, (claim, word) in enumerate(zip(claims, self.told())) if before.get(id(claim)) != word
        )
        return kept

    def wrong(self, method, arguments):
        """Return the error and its fields that a call raises, None if it raises none."""
        names, entries, unlike = self.facts
        if method == "undo":
            return None if self.past else (NothingToUndo, ())
        if len(self.past) == 20:
            return (Full, ())
        if method == "note":
            if any(type(name) is not int or not 0 <= name < names for name in arguments) or arguments in entries:
                return (BadFacts, (None, "entry"))
            if len(entries) == 10:
                return (BadFacts, (None, "entries"))
            found = clash((names, tuple(sorted(entries + (arguments,))), unlike))
            return found and (NoTable, found)
        if method == "part":
            if any(type(name) is not int or not 0 <= name < names for name in arguments) or arguments in unlike:
                return (BadFacts, (None, "pair"))
            if arguments[0] >= arguments[1]:
                return (BadFacts, (None, "pair"))
            if len(unlike) == 6:
                return (BadFacts, (None, "unlike"))
            found = clash((names, entries, tuple(sorted(unlike + (arguments,)))))
            return found and (NoTable, found)
        if method == "claim":
            words = [word for word in (formula_error(names, formula) for formula in arguments) if word is not None]
            if words:
                return (BadFormula, (words[0],))
            return (BadFormula, ("claims",)) if len(self.claims) == 4 else None
        lists = {"strike": (entries, NoEntry), "drop": (unlike, NoPair), "forget": (self.claims, NoClaim)}
        several, error = lists[method]
        number = arguments[0]
        return None if type(number) is int and 0 <= number < len(several) else (error, (number,))

    def call(self, method, arguments):
        """Do what a call does that raises nothing, and return the version behind it."""
        names, entries, unlike = self.facts
        if method == "undo":
            self.turn(*self.past.pop())
            return len(self.past)
        self.past.append((self.facts, self.claims))
        if method == "note":
            self.turn((names, tuple(sorted(entries + (arguments,))), unlike), self.claims)
        elif method == "part":
            self.turn((names, entries, tuple(sorted(unlike + (arguments,)))), self.claims)
        elif method == "claim":
            self.turn(self.facts, self.claims + [list(arguments)])
        else:
            number = arguments[0]
            left = {
                "strike": (names, entries[:number] + entries[number + 1:], unlike),
                "drop": (names, entries, unlike[:number] + unlike[number + 1:]),
            }
            kept = self.claims[:number] + self.claims[number + 1:] if method == "forget" else self.claims
            self.turn(left.get(method, self.facts), kept)
        return len(self.past)


class AsTheModel(BookCase):
    def arguments(self, rng, method, names):
        """Return arguments for a method, most of them right."""
        if method in ("note", "part"):
            several = [rng.randrange(names + (rng.random() < 0.1)) for _ in range(3 if method == "note" else 2)]
            several = sorted(several) if method == "part" and rng.random() < 0.9 else several
            if rng.random() < 0.05:
                several[0] = rng.choice((None, True, -1, "0", (0,)))
            return tuple(several)
        if method == "claim":
            few = [some_formula(rng, min(names, 3), rng.choice((1, 1, 3))) for _ in range(2)]
            if rng.random() < 0.1:
                few[rng.randrange(2)] = rng.choice((names, None, ("with", 0), ("x", 0, 0), chain(17)))
            return tuple(few)
        return () if method == "undo" else (rng.choice((0, 0, 1, 1, 2, 3, 9, -1, True)),)

    def step(self, rng, book, model):
        methods = ("note", "note", "note", "strike", "part", "drop", "claim", "claim", "forget", "undo", "undo")
        method = rng.choice(methods)
        arguments = self.arguments(rng, method, model.facts[0])
        wrong = model.wrong(method, arguments)
        if wrong is None:
            self.assertEqual(getattr(book, method)(*arguments), model.call(method, arguments))
        else:
            self.refused(book, *wrong, method, *arguments)
        self.assertEqual(exact(book.facts), exact(model.facts))
        self.assertEqual(exact(book.claims), exact(tuple(tuple(claim) for claim in model.claims)))
        self.assertEqual(exact(book.told()), exact(model.told()))
        self.assertEqual(exact(book.changed), exact(model.changed), (method, arguments))
        self.assertEqual(book.version, len(model.past))
        return wrong

    def test_many_steps(self):
        seen, changed = {}, set()
        for number, facts in enumerate(many_facts(6, 30, only_with_world=True)):
            rng = random.Random(number)
            book, model = Book(facts), Model(facts)
            for _ in range(60):
                wrong = self.step(rng, book, model)
                seen[wrong and wrong[0]] = seen.get(wrong and wrong[0], 0) + 1
                changed.add(book.changed)
        errors = {None, BadFacts, BadFormula, Full, NoClaim, NoEntry, NoPair, NoTable, NothingToUndo}
        self.assertEqual(set(seen), errors)
        self.assertGreater(min(seen.values()), 5, seen)
        self.assertGreater(len(changed), 8, changed)

    def test_many_steps_within_tried(self):
        for number, facts in enumerate(many_facts(7, 10, only_with_world=True)):
            rng = random.Random(number)
            book, model = Book(facts), Model(facts)
            for _ in range(12):
                self.step(rng, book, model)
                kept = Model(model.facts)
                kept.claims, kept.past, kept.changed = model.claims, list(model.past), model.changed
                before = state(book)
                book.tried(lambda given: [self.step(rng, given, kept) for _ in range(8)])
                self.assertEqual(state(book), before)


class Greatest(BookCase):
    def test_many_times(self):
        for _ in range(5):
            book = Book(FULL)
            for _ in range(4):
                book.claim(BIG, OTHER_BIG)
            for number in range(8):
                book.strike(9)
                book.note(*FULL[1][9])
            self.assertEqual(book.version, MAX_EDITS)
            self.assertEqual(book.facts, FULL)
            for _ in range(MAX_EDITS):
                book.undo()


if __name__ == "__main__":
    unittest.main()
