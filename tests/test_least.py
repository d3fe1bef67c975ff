import itertools
import random
import unittest

from solvedbothsides.bounds import MAX_LEAST
from solvedbothsides.errors import NoTable
from solvedbothsides.facts import clash
from solvedbothsides.least import least_size
from helper import F, LONG_CHAINS, SMALL_TABLES, facts_with_world, is_world, latin, many_facts

TABLES_OF_FOUR = tuple(latin(4))
WITHOUT = (3, ((0, 0, 1), (0, 2, 1)), ((0, 2),))
ALL_UNLIKE = tuple(itertools.combinations(range(4), 2))
# Entries that no table of just four things has, where these four are unlike.
NO_FOUR = ((0, 0, 0), (0, 1, 1), (0, 2, 2), (1, 3, 3))


def has_small_world(facts, size):
    """Return whether a table of this size is one of a world, by a look at each table and each tuple of things."""
    tables = TABLES_OF_FOUR if size == 4 else [table for table in SMALL_TABLES if len(table) == size]
    _, entries, unlike = facts
    for things in itertools.product(range(size), repeat=facts[0]):
        if all(things[x] != things[y] for x, y in unlike):
            used = [(things[x], things[y], things[z]) for x, y, z in entries]
            if any(all(table[x][y] == z for x, y, z in used) for table in tables):
                return True
    return False


def least_by_hand(facts):
    return next((size for size in range(1, 5) if has_small_world(facts, size)), None)


class LeastSize(unittest.TestCase):
    def check(self, facts):
        right = least_by_hand(facts)
        self.assertEqual(least_size(facts), right, facts)
        return right

    def test_examples(self):
        self.assertEqual(least_size(F), 2)
        self.assertEqual(least_size(facts=F), 2)
        self.assertEqual(least_size((2, ((0, 0, 0), (0, 1, 0)), ())), 1)
        self.assertEqual(least_size((3, ((0, 0, 1), (1, 1, 0), (0, 1, 2)), ((0, 1), (0, 2), (1, 2)))), 3)
        self.assertEqual(least_size((2, ((0, 0, 0), (1, 1, 1)), ((0, 1),))), 3)

    def test_nothing_known(self):
        for names in range(1, 9):
            self.assertEqual(least_size((names, (), ())), 1)

    def test_as_many_things_as_are_unlike(self):
        for names in (4, 8):
            self.assertEqual(least_size((names, (), ((0, 1),))), 2)
            self.assertEqual(least_size((names, (), ((0, 1), (0, 2), (1, 2)))), 3)
            self.assertEqual(least_size((names, (), ALL_UNLIKE)), 4)
            # Not all of them are unlike one another.
            self.assertEqual(least_size((names, (), ((0, 1), (1, 2), (2, 3)))), 2)
            self.assertEqual(least_size((names, (), ((0, 1), (0, 2), (0, 3), (1, 2)))), 3)

    def test_none_with_so_few(self):
        # In a table of just these four the last place of the first row is left for 3, which stands in that column.
        self.assertIsNone(self.check((4, NO_FOUR, ALL_UNLIKE)))
        for number in range(4):
            self.assertEqual(self.check((4, NO_FOUR[:number] + NO_FOUR[number + 1:], ALL_UNLIKE)), 4)
        self.assertEqual(self.check((4, ((0, 0, 0), (1, 1, 1), (2, 2, 2), (3, 3, 3)), ALL_UNLIKE)), 4)

    def test_no_table(self):
        for facts in (WITHOUT, (8, LONG_CHAINS[0][0], ((0, 6),))):
            for _ in range(2):
                with self.assertRaises(NoTable) as caught:
                    least_size(facts)
                self.assertEqual((caught.exception.pair, caught.exception.numbers), clash(facts))

    def test_by_hand_up_to_three_names(self):
        counts = {1: 0, 2: 0, 3: 0, 4: 0, None: 0}
        for facts in many_facts(1, 250, greatest=3, only_with_world=True):
            counts[self.check(facts)] += 1
        self.assertGreater(min(counts[size] for size in (1, 2, 3)), 10, counts)

    def test_by_hand_with_four_names(self):
        counts = {1: 0, 2: 0, 3: 0, 4: 0, None: 0}
        for facts in many_facts(2, 300, greatest=4, only_with_world=True):
            if facts[0] == 4:
                counts[self.check(facts)] += 1
        self.assertGreater(min(counts[size] for size in (1, 2, 3, 4)), 2, counts)

    def test_facts_of_a_table_of_four(self):
        rng = random.Random(3)
        counts = {1: 0, 2: 0, 3: 0, 4: 0}
        for _ in range(200):
            facts = facts_with_world(rng, rng.randint(5, 8), rng.randint(3, 10), 6, 4)
            found = least_size(facts)
            self.assertLessEqual(found, 4)
            counts[found] += 1
        self.assertGreater(min(counts[3], counts[4]), 20, counts)

    def test_four_unlike_names_and_many_entries(self):
        rng = random.Random(4)
        counts = {4: 0, None: 0}
        for _ in range(60):
            table = rng.choice(TABLES_OF_FOUR)
            places = rng.sample(list(itertools.product(range(4), repeat=2)), rng.randint(4, 9))
            entries = [(x, y, table[x][y]) for x, y in places]
            if rng.random() < 0.7:
                # One altered, so that most of these stand in no table of four.
                x, y, z = entries.pop()
                entries.append((x, y, (z + 1) % 4))
            facts = (4, tuple(sorted(entries)), ALL_UNLIKE)
            if clash(facts) is None:
                counts[self.check(facts)] += 1
        self.assertGreater(min(counts.values()), 5, counts)

    def test_a_world_of_that_size_stands_in_a_table(self):
        for facts in many_facts(5, 60, greatest=3, only_with_world=True):
            found = least_size(facts)
            if found is not None and found < 4:
                things = itertools.product(range(found), repeat=facts[0])
                tables = [table for table in SMALL_TABLES if len(table) == found]
                self.assertTrue(any(is_world(facts, made) for made in itertools.product(tables, things)))

    def test_the_greatest_many_times(self):
        self.assertEqual(MAX_LEAST, 4)
        free = (8, (), ((0, 1), (2, 3), (4, 5), (6, 7), (0, 7), (1, 6)))
        # Many tuples of things are open as far as two entries tell, and none goes on.
        wide = (8, (*NO_FOUR, (4, 5, 6), (5, 6, 7), (6, 7, 4), (7, 4, 5)), ALL_UNLIKE)
        for _ in range(3):
            self.assertEqual(least_size(free), 2)
            self.assertIsNone(least_size(wide))
            self.assertEqual(least_size((8, LONG_CHAINS[0][0], ())), 1)


if __name__ == "__main__":
    unittest.main()
