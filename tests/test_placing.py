import itertools
import random
import unittest

from solvedbothsides.bounds import MAX_TRIES
from solvedbothsides.errors import TableError, TooMany
from solvedbothsides.facts import clash
from solvedbothsides.placing import placed, places
from helper import F, LONG_CHAINS, SMALL_TABLES, T, TABLES, facts_with_world, is_world, lined, many_facts, shuffled


class Placing(unittest.TestCase):
    def check(self, facts, table):
        tuples = list(itertools.product(range(len(table)), repeat=facts[0]))
        right = [things for things in tuples if is_world(facts, (table, things))]
        self.assertEqual(places(facts, table), len(right), (facts, table))
        found = placed(facts, table)
        self.assertEqual(found, right[0] if right else None, (facts, table))
        self.assertIsInstance(found, tuple if right else type(None))
        return len(right)

    def test_examples(self):
        self.assertEqual(placed(F, T), (0, 1, 2, 1))
        self.assertEqual(places(F, T), 6)
        self.assertEqual(placed(facts=F, table=T), (0, 1, 2, 1))
        self.assertEqual(places(facts=F, table=T), 6)

    def test_in_all_small_tables(self):
        counts = [0, 0]
        for facts in many_facts(1, 120, greatest=4):
            for table in SMALL_TABLES:
                counts[self.check(facts, table) > 0] += 1
        self.assertGreater(min(counts), 300)

    def test_many_names_and_many_things(self):
        rng = random.Random(2)
        for size, names in ((2, 8), (3, 7), (4, 5), (5, 4), (7, 3), (12, 3), (30, 2), (60, 1)):
            for _ in range(5):
                table = shuffled(rng, size)
                self.check(facts_with_world(rng, names, rng.randint(0, 3), rng.randint(0, 6), size), table)
                self.check((names, ((0, 0, names - 1),), ()), table)

    def test_nothing_known(self):
        for table in TABLES:
            for names in range(1, 6):
                self.assertEqual(placed((names, (), ()), table), (0,) * names)
                self.assertEqual(places((names, (), ()), table), len(table) ** names)

    def test_all_unlike(self):
        pairs = tuple(itertools.combinations(range(4), 2))
        self.assertEqual(placed((4, (), pairs), TABLES[-1]), (0, 1, 2, 3))
        self.assertEqual(places((4, (), pairs), TABLES[-1]), 5 * 4 * 3 * 2)
        self.assertIsNone(placed((4, (), pairs), T))
        self.assertEqual(places((4, (), pairs), T), 0)

    def test_no_tuple(self):
        # Each thing of this table gives another one with itself.
        table = lined(3, 2, 2, 1)
        self.assertIsNone(placed((1, ((0, 0, 0),), ()), table))
        self.assertEqual(places((1, ((0, 0, 0),), ()), table), 0)
        self.assertEqual(placed((1, ((0, 0, 0),), ()), ((1, 0), (0, 1))), (1,))
        self.assertIsNone(placed((2, ((0, 0, 0),), ((0, 1),)), ((0,),)))
        self.assertEqual(places((2, ((0, 0, 0),), ((0, 1),)), ((0,),)), 0)

    def test_facts_without_a_world(self):
        several = ((3, ((0, 0, 1), (0, 2, 1)), ((0, 2),)), (8, LONG_CHAINS[0][0], ((0, 6),)))
        for facts in several:
            self.assertIsNotNone(clash(facts))
            for table in SMALL_TABLES:
                self.assertIsNone(placed(facts, table))
                self.assertEqual(places(facts, table), 0)

    def refused(self, facts, table):
        for function in (placed, places):
            for _ in range(2):
                with self.assertRaises(TooMany) as caught:
                    function(facts, table)
                self.assertIsInstance(caught.exception, TableError)
                self.assertEqual(caught.exception.limit, MAX_TRIES)

    def test_too_many(self):
        for size, names in ((1, 8), (3, 8), (4, 7), (5, 6), (7, 5), (11, 4), (27, 3), (60, 2)):
            self.assertLessEqual(size ** names, 20000)
            table = lined(size, 1, 1, 0)
            self.assertEqual(places((names, (), ()), table), size ** names)
            self.assertEqual(placed((names, (), ()), table), (0,) * names)
        for size, names in ((4, 8), (5, 7), (6, 6), (8, 5), (12, 4), (28, 3), (60, 3), (60, 8)):
            self.assertGreater(size ** names, 20000)
            table = lined(size, 1, 1, 0)
            self.refused((names, (), ()), table)
            # Whether few of them are worlds or none does not matter.
            self.refused((names, ((0, 0, 0),), ((0, 1),)), table)
            self.refused((names, ((0, 0, 0), (0, 1, 0)), ((0, 1),)), table)

    def test_the_greatest_many_times(self):
        table = lined(27, 2, 5, 1)
        facts = (3, ((0, 1, 2),), ((0, 1), (0, 2), (1, 2)))
        right = [
            (x, y, table[x][y]) for x in range(27) for y in range(27) if len({x, y, table[x][y]}) == 3
        ]
        for _ in range(20):
            self.assertEqual(places(facts, table), len(right))
            self.assertEqual(placed(facts, table), right[0])
        facts = (8, LONG_CHAINS[2][0], ((0, 7), (1, 7), (2, 7), (3, 7), (4, 7), (5, 7)))
        for _ in range(5):
            self.check(facts, lined(3, 2, 2, 0))
            self.assertEqual(placed(facts, lined(3, 2, 2, 0)), (0,) * 7 + (1,))


if __name__ == "__main__":
    unittest.main()
