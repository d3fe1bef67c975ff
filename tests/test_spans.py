import itertools
import random
import unittest

from solvedbothsides.bounds import MAX_FEW
from solvedbothsides.spans import lone, makers, span
from helper import SMALL_TABLES, T, TABLES, formulas, is_table, latin, lined, shuffled, told

TABLES_OF_FOUR = tuple(latin(4))


def exclusive(size):
    """Return the table in which x with y gives the bits in which the two are unlike; size is a power of 2."""
    return tuple(tuple(x ^ y for y in range(size)) for x in range(size))


def beside(one, other):
    """Return the table of pairs of things, of which the first ones go by one and the second ones by other."""
    many = len(other)
    return tuple(
        tuple(one[x // many][y // many] * many + other[x % many][y % many] for y in range(len(one) * many))
        for x in range(len(one) * many)
    )


def renamed_by(table, names):
    """Return the table with names[x] in the place of each thing x."""
    rows = [[0] * len(table) for _ in table]
    for x, y in itertools.product(range(len(table)), repeat=2):
        rows[names[x]][names[y]] = names[table[x][y]]
    return tuple(tuple(row) for row in rows)


def renamed(rng, table):
    """Return the table with other names for its things, in no order."""
    return renamed_by(table, rng.sample(range(len(table)), len(table)))


def span_by_hand(table, things):
    """Return all that is told with some of the things: by each of the three words, again and again."""
    found = set(things)
    while True:
        more = set(found)
        for word, one, other in itertools.product(("with", "behind", "ahead"), found, found):
            more.add(told(table, (one, other), (word, 0, 1)))
        if more == found:
            return tuple(sorted(found))
        found = more


def makers_by_hand(table):
    for many in range(1, len(table) + 1):
        for things in itertools.combinations(range(len(table)), many):
            if len(span_by_hand(table, things)) == len(table):
                return things


# In this table 0 and 1 are a part, and so are 0 and 2, and 0 and 3.
PARTS = exclusive(4)
TWELVE = beside(exclusive(4), T)
SOME_TABLES = (
    *TABLES, PARTS, TWELVE, exclusive(8), lined(12, 1, 1, 0), lined(12, 5, 7, 0), lined(9, 4, 7, 0), lined(10, 3, 7, 1),
    beside(T, lined(3, 1, 1, 0)), beside(((0, 1), (1, 0)), lined(5, 2, 4, 0)),
)


class Span(unittest.TestCase):
    def check(self, table, things):
        right = span_by_hand(table, things)
        self.assertEqual(span(table, things), right, (table, things))
        return right

    def test_examples(self):
        self.assertEqual(span(T, (0, 1)), (0, 1, 2))
        self.assertEqual(span(table=T, things=(0, 1)), (0, 1, 2))

    def test_tables_are_tables(self):
        self.assertTrue(all(is_table(table) for table in SOME_TABLES))

    def test_parts(self):
        self.assertEqual(span(PARTS, (1,)), (0, 1))
        self.assertEqual(span(PARTS, (0,)), (0,))
        self.assertEqual(span(PARTS, (2, 0)), (0, 2))
        self.assertEqual(span(PARTS, (3, 1)), (0, 1, 2, 3))
        self.assertEqual(span(T, (0,)), (0,))
        self.assertEqual(span(T, (2,)), (0, 1, 2))

    def test_ascending_and_each_once(self):
        self.assertEqual(span(T, (0, 0, 0)), (0,))
        self.assertEqual(span(lined(5, 2, 4, 0), (3, 3)), (3,))
        self.assertEqual(span(exclusive(8), (5, 3, 5)), (0, 3, 5, 6))

    def test_what_formulas_tell(self):
        # All that formulas of sizes up to 7 tell, with each of their names standing for one of the things.
        several = [formula for size in (1, 3, 5, 7) for formula in formulas(1, size)]
        for table in SMALL_TABLES:
            for thing in range(len(table)):
                right = tuple(sorted({told(table, (thing,), formula) for formula in several}))
                self.assertEqual(span(table, (thing,)), right)
        several = [formula for size in (1, 3, 5) for formula in formulas(2, size)]
        for table in SMALL_TABLES:
            for things in itertools.product(range(len(table)), repeat=2):
                self.assertLessEqual({told(table, things, formula) for formula in several}, set(span(table, things)))

    def test_in_tables_of_four(self):
        lengths = set()
        for table in TABLES_OF_FOUR[::3]:
            for many in (1, 2):
                for things in itertools.product(range(4), repeat=many):
                    lengths.add(len(self.check(table, things)))
        self.assertEqual(lengths, {1, 2, 4})

    def test_many_tables(self):
        rng = random.Random(1)
        lengths = set()
        for table in SOME_TABLES + (shuffled(rng, 7), shuffled(rng, 11)):
            for _ in range(3):
                used = renamed(rng, table)
                for _ in range(10):
                    things = tuple(rng.randrange(len(table)) for _ in range(rng.randint(1, 4)))
                    lengths.add(len(self.check(used, things)))
        self.assertLessEqual({1, 2, 3, 4, 5, 6, 8, 9, 12}, lengths)

    def test_closed_and_nothing_more(self):
        table = renamed(random.Random(2), beside(exclusive(4), lined(15, 2, 11, 4)))
        for things in ((0,), (7,), (3, 4), (59, 0, 30), tuple(range(60))):
            found = self.check(table, things)
            self.assertLessEqual(set(things), set(found))
            self.assertLessEqual({table[x][y] for x in found for y in found}, set(found))

    def test_the_greatest_many_times(self):
        for table in (lined(60, 1, 1, 0), lined(60, 7, 11, 3), beside(exclusive(4), lined(15, 1, 1, 0))):
            for _ in range(5):
                self.assertEqual(span(table, tuple(range(60))), tuple(range(60)))
                self.assertEqual(len(span(lined(60, 1, 1, 0), (2,))), 30)
                span(table, (59,))
        self.assertEqual(span(((0,),), (0,)), (0,))


class Lone(unittest.TestCase):
    def check(self, table):
        right = tuple(sorted({span_by_hand(table, (thing,)) for thing in range(len(table))}))
        self.assertEqual(lone(table), right, table)

    def test_examples(self):
        self.assertEqual(lone(T), ((0,), (0, 1, 2)))
        self.assertEqual(lone(((0, 1), (1, 0))), ((0,), (0, 1)))
        self.assertEqual(lone(table=T), ((0,), (0, 1, 2)))

    def test_ascending_and_each_once(self):
        self.assertEqual(lone(PARTS), ((0,), (0, 1), (0, 2), (0, 3)))
        self.assertEqual(lone(lined(4, 1, 1, 0)), ((0,), (0, 1, 2, 3), (0, 2)))
        self.assertEqual(lone(lined(5, 2, 4, 0)), ((0,), (1,), (2,), (3,), (4,)))
        self.assertEqual(lone(lined(3, 1, 1, 1)), ((0, 1, 2), (2,)))
        self.assertEqual(lone(((0,),)), ((0,),))

    def test_in_small_tables(self):
        for table in (*SMALL_TABLES, *TABLES_OF_FOUR[::2]):
            self.check(table)

    def test_many_tables(self):
        rng = random.Random(3)
        for table in SOME_TABLES:
            self.check(table)
            self.check(renamed(rng, table))

    def test_the_greatest_many_times(self):
        table = lined(60, 1, 1, 0)
        # One part for each divisor of 60.
        for _ in range(3):
            self.assertEqual(sorted(len(part) for part in lone(table)), [1, 2, 3, 4, 5, 6, 10, 12, 15, 20, 30, 60])
        self.assertEqual(lone(lined(59, 2, 58, 0)), tuple((thing,) for thing in range(59)))


class Makers(unittest.TestCase):
    def check(self, table):
        right = makers_by_hand(table)
        self.assertEqual(makers(table), right, table)
        return len(right)

    def test_examples(self):
        self.assertEqual(makers(T), (1,))
        self.assertEqual(makers(((0, 1), (1, 0))), (1,))
        self.assertEqual(makers(table=T), (1,))

    def test_the_fewest_then_the_least(self):
        self.assertEqual(makers(((0,),)), (0,))
        self.assertEqual(makers(PARTS), (1, 2))
        self.assertEqual(makers(exclusive(8)), (1, 2, 4))
        self.assertEqual(makers(lined(12, 1, 1, 0)), (1,))
        self.assertEqual(makers(lined(5, 2, 4, 0)), (0, 1))
        # 1 alone and 2 alone tell a part each, 3 alone tells all.
        self.assertEqual(makers(renamed_by(lined(6, 1, 1, 0), (0, 5, 1, 2, 4, 3))), (3,))

    def test_in_small_tables(self):
        lengths = {self.check(table) for table in (*SMALL_TABLES, *TABLES_OF_FOUR)}
        self.assertEqual(lengths, {1, 2})

    def test_many_tables(self):
        rng = random.Random(4)
        lengths = set()
        for table in SOME_TABLES:
            for _ in range(4):
                lengths.add(self.check(renamed(rng, table)))
        self.assertEqual(lengths, {1, 2, 3})

    def test_the_greatest_many_times(self):
        self.assertEqual(MAX_FEW, 12)
        for table in (TWELVE, lined(12, 1, 1, 0), lined(12, 5, 7, 0), beside(PARTS, lined(3, 2, 2, 0))):
            right = makers_by_hand(table)
            for _ in range(5):
                self.assertEqual(makers(table), right)

    def test_somewhat_beyond(self):
        self.assertEqual(makers(lined(13, 1, 1, 0)), (1,))
        self.assertEqual(makers(exclusive(16)), (1, 2, 4, 8))


if __name__ == "__main__":
    unittest.main()
