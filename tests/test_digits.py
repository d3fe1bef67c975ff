import itertools
import random
import unittest

from solvedbothsides.bounds import MAX_WORD
from solvedbothsides.digits import is_marked, mark, missed
from helper import SMALL_TABLES, T, TABLES, is_table, latin, lined, shuffled

# Tables like no sum, with the least exchange that is not noticed in each.
LATE = (
    (((2, 0, 1, 3, 4), (3, 2, 4, 1, 0), (0, 1, 3, 4, 2), (4, 3, 0, 2, 1), (1, 4, 2, 0, 3)), (0, 0, 2)),
    (((2, 4, 0, 1, 3), (4, 1, 2, 3, 0), (3, 2, 1, 0, 4), (0, 3, 4, 2, 1), (1, 0, 3, 4, 2)), (1, 0, 2)),
    (((2, 4, 1, 0, 3), (0, 1, 2, 3, 4), (3, 0, 4, 1, 2), (1, 2, 3, 4, 0), (4, 3, 0, 2, 1)), (2, 0, 1)),
    (((1, 0, 4, 3, 2), (3, 4, 2, 0, 1), (0, 3, 1, 2, 4), (2, 1, 3, 4, 0), (4, 2, 0, 1, 3)), (3, 0, 1)),
    (((1, 0, 3, 4, 2), (2, 4, 0, 1, 3), (4, 1, 2, 3, 0), (3, 2, 4, 0, 1), (0, 3, 1, 2, 4)), (4, 0, 3)),
)
FIVE = LATE[2][0]


def led(table, here, word):
    """Return the thing to which a word leads from here, by its things one after the other."""
    return led(table, table[here][word[0]], word[1:]) if word else here


def missed_by_hand(table):
    things = range(len(table))
    found = [
        (here, one, other) for here, one, other in itertools.product(things, repeat=3)
        if one < other and table[table[here][one]][other] == table[table[here][other]][one]
    ]
    return min(found, default=None)


def some_words(rng, size, many):
    """Return so many words of 1 to 30 things below size."""
    return [tuple(rng.randrange(size) for _ in range(rng.randint(1, MAX_WORD))) for _ in range(many)]


class Mark(unittest.TestCase):
    def check(self, table, word):
        right = [thing for thing in range(len(table)) if led(table, 0, (*word, thing)) == 0]
        self.assertEqual(len(right), 1)
        self.assertEqual([mark(table, word)], right, (table, word))

    def test_examples(self):
        self.assertEqual(mark(T, (1, 2)), 0)
        self.assertEqual(mark(table=T, word=(1, 2)), 0)

    def test_step_by_step(self):
        # From 0 by 1 to 2, from 2 by 2 to 0, and from 0 by 0 to 0.
        self.assertEqual((T[0][1], T[2][2], T[0][0]), (2, 0, 0))
        self.assertEqual(mark(T, (1,)), 2)
        self.assertEqual(mark(T, (0,)), 0)
        self.assertEqual(mark(T, (0, 0, 1)), 2)
        # A thing gives itself with itself, but what leads from 0 to 0 starts at 0, not at the first thing.
        self.assertEqual(mark(((1, 0), (0, 1)), (0,)), 0)
        self.assertEqual(mark(((1, 0), (0, 1)), (1,)), 1)

    def test_short_words_in_small_tables(self):
        for table in SMALL_TABLES:
            for many in (1, 2, 3, 4):
                for word in itertools.product(range(len(table)), repeat=many):
                    self.check(table, word)

    def test_many_words(self):
        rng = random.Random(1)
        for table in (*TABLES, FIVE, shuffled(rng, 12), shuffled(rng, 60), lined(60, 7, 11, 3)):
            for word in some_words(rng, len(table), 60):
                self.check(table, word)

    def test_the_greatest(self):
        table = lined(60, 7, 11, 3)
        for thing in (0, 1, 59):
            for many in (1, MAX_WORD, MAX_WORD + 1, 3 * MAX_WORD):
                self.check(table, (thing,) * many)
        self.assertEqual(mark(((0,),), (0,) * MAX_WORD), 0)


class IsMarked(unittest.TestCase):
    def test_examples(self):
        self.assertIs(is_marked(T, (1, 2, 0)), True)
        self.assertIs(is_marked(table=T, word=(1, 2, 0)), True)
        self.assertIs(is_marked(T, (1, 2, 1)), False)

    def test_short_words_in_small_tables(self):
        for table in SMALL_TABLES + (FIVE,):
            for many in (1, 2, 3):
                for word in itertools.product(range(len(table)), repeat=many):
                    self.assertIs(is_marked(table, word), led(table, 0, word) == 0, (table, word))

    def test_with_the_mark_alone(self):
        rng = random.Random(2)
        for table in (*TABLES, FIVE, shuffled(rng, 60)):
            for word in some_words(rng, len(table), 20):
                found = mark(table, word)
                for thing in range(len(table)):
                    self.assertIs(is_marked(table, (*word, thing)), thing == found)

    def test_one_altered_thing_is_never_marked(self):
        rng = random.Random(3)
        for table in (FIVE, T, shuffled(rng, 9)):
            for word in some_words(rng, len(table), 10):
                whole = (*word, mark(table, word))
                for place, thing in itertools.product(range(len(whole)), range(len(table))):
                    altered = (*whole[:place], thing, *whole[place + 1:])
                    self.assertIs(is_marked(table, altered), altered == whole)

    def test_the_greatest(self):
        table = lined(60, 7, 11, 3)
        for many in (1, MAX_WORD, MAX_WORD + 1):
            word = tuple(range(many - 1))
            if word:
                self.assertIs(is_marked(table, (*word, mark(table, word))), True)
            self.assertIs(is_marked(table, (0,) * many), led(table, 0, (0,) * many) == 0)


class Missed(unittest.TestCase):
    def test_examples(self):
        self.assertEqual(missed(T), (0, 0, 1))
        self.assertEqual(missed(table=T), (0, 0, 1))

    def test_in_all_small_tables(self):
        found = {missed(table) is None for table in SMALL_TABLES}
        for table in SMALL_TABLES:
            self.assertEqual(missed(table), missed_by_hand(table), table)
        self.assertEqual(found, {True, False})

    def test_in_tables_of_four(self):
        counts = [0, 0]
        for table in latin(4):
            right = missed_by_hand(table)
            self.assertEqual(missed(table), right, table)
            counts[right is None] += 1
        self.assertGreater(min(counts), 40, counts)

    def test_from_the_least_thing_on(self):
        for table, right in LATE:
            self.assertTrue(is_table(table))
            self.assertEqual(missed_by_hand(table), right)
            self.assertEqual(missed(table), right)
            here, one, other = right
            self.assertEqual(led(table, here, (one, other)), led(table, here, (other, one)))

    def test_single_thing(self):
        self.assertIsNone(missed(((0,),)))

    def test_every_exchange_noticed(self):
        # left * (left * here + x) + y is another one with x and y exchanged if left - 1 divides nothing in size.
        for size in (3, 5, 7, 11, 59):
            table = lined(size, 2, 1, 0)
            self.assertIsNone(missed(table))
            self.assertIsNone(missed_by_hand(table))

    def test_some_exchange_not_noticed(self):
        rng = random.Random(4)
        for table in [lined(60, 1, 1, 0), lined(60, 7, 11, 3), lined(15, 4, 1, 2), FIVE] + [
            shuffled(rng, size) for size in (5, 6, 8, 12, 20) for _ in range(5)
        ]:
            self.assertEqual(missed(table), missed_by_hand(table))
        self.assertEqual(missed(lined(60, 1, 1, 0)), (0, 0, 1))
        # By 6 * (x - y) these are the first two things that meet.
        self.assertEqual(missed(lined(60, 7, 1, 0)), (0, 0, 10))

    def test_the_greatest_many_times(self):
        for _ in range(3):
            self.assertIsNone(missed(lined(59, 2, 1, 0)))


if __name__ == "__main__":
    unittest.main()
