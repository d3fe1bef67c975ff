import itertools
import random
import unittest

from solvedbothsides.facts import clash, facts_error
from solvedbothsides.formulas import formula_error, size
from solvedbothsides.turning import back, turned, turned_facts, turned_formula
from helper import (
    BIG, F, LONG_CHAINS, OTHER_BIG, SMALL_TABLES, T, TABLES, chain, formulas, is_table, is_world, lined, many_facts,
    names_in, shuffled, small_worlds, some_formula, told,
)

WAYS = tuple(itertools.permutations(range(3)))


def entries(table):
    """Return the set of all entries of a table."""
    things = range(len(table))
    return {(x, y, table[x][y]) for x in things for y in things}


def tables():
    rng = random.Random(1)
    return SMALL_TABLES + TABLES + (shuffled(rng, 6), shuffled(rng, 17), lined(60, 7, 11, 3), shuffled(rng, 60))


class Back(unittest.TestCase):
    def test_examples(self):
        self.assertEqual(back((1, 2, 0)), (2, 0, 1))
        self.assertEqual(back(way=(0, 1, 2)), (0, 1, 2))

    def test_all_six(self):
        right = {(0, 1, 2): (0, 1, 2), (0, 2, 1): (0, 2, 1), (1, 0, 2): (1, 0, 2), (2, 1, 0): (2, 1, 0),
                 (1, 2, 0): (2, 0, 1), (2, 0, 1): (1, 2, 0)}
        for way in WAYS:
            self.assertEqual(back(way), right[way])


class Turned(unittest.TestCase):
    def test_examples(self):
        self.assertEqual(turned(T, (1, 0, 2)), ((0, 1, 2), (2, 0, 1), (1, 2, 0)))
        self.assertEqual(turned(table=T, way=(0, 1, 2)), T)

    def test_each_entry(self):
        for table in tables():
            for way in WAYS:
                made = turned(table, way)
                self.assertTrue(is_table(made))
                self.assertEqual(len(made), len(table))
                for e in entries(table):
                    self.assertEqual(made[e[way[0]]][e[way[1]]], e[way[2]])

    def test_back_leads_back(self):
        for table in tables():
            for way in WAYS:
                self.assertEqual(turned(turned(table, way), back(way)), table)

    def test_twice_is_once_by_both_ways(self):
        for table in tables()[-6:]:
            for way, then in itertools.product(WAYS, repeat=2):
                both = tuple(way[place] for place in then)
                self.assertEqual(turned(turned(table, way), then), turned(table, both))

    def test_the_greatest_many_times(self):
        table = shuffled(random.Random(2), 60)
        for way in WAYS:
            found = turned(table, way)
            for _ in range(10):
                self.assertEqual(turned(table, way), found)


class TurnedFacts(unittest.TestCase):
    def test_examples(self):
        self.assertEqual(turned_facts(F, (0, 2, 1))[1], ((0, 2, 1), (0, 2, 3)))
        self.assertEqual(turned_facts(facts=F, way=(1, 0, 2)), (4, ((1, 0, 2), (3, 0, 2)), ((0, 1),)))

    def test_entries_and_pairs(self):
        for facts in many_facts(1, 100):
            for way in WAYS:
                made = turned_facts(facts, way)
                self.assertIsNone(facts_error(made))
                self.assertEqual((made[0], made[2]), (facts[0], facts[2]))
                self.assertEqual(set(made[1]), {tuple(e[place] for place in way) for e in facts[1]})
                self.assertEqual(list(made[1]), sorted(made[1]))
                self.assertEqual(turned_facts(made, back(way)), facts)

    def test_worlds_are_turned(self):
        for facts in many_facts(2, 25, greatest=3):
            for way in WAYS:
                made = turned_facts(facts, way)
                right = {(turned(table, way), things) for table, things in small_worlds(facts)}
                self.assertEqual(set(small_worlds(made)), right)
                for world in right:
                    self.assertTrue(is_world(made, world))

    def test_without_world(self):
        for facts in ((3, ((0, 0, 1), (0, 2, 1)), ((0, 2),)), (8, LONG_CHAINS[0][0], ((0, 6),))):
            for way in WAYS:
                made = turned_facts(facts, way)
                self.assertIsNotNone(clash(made))
                self.assertEqual(turned_facts(made, back(way)), facts)

    def test_the_greatest_many_times(self):
        facts = (8, LONG_CHAINS[0][0], tuple(itertools.combinations(range(4), 2)))
        for way in WAYS * 20:
            self.assertEqual(turned_facts(turned_facts(facts, way), back(way)), facts)


class TurnedFormula(unittest.TestCase):
    def test_examples(self):
        self.assertEqual(turned_formula(("behind", 0, 1), (1, 0, 2)), ("ahead", 0, 1))
        self.assertEqual(turned_formula(formula=3, way=(2, 0, 1)), 3)

    def test_each_word_and_way(self):
        # Where x with y gives z: x, y and z at their new places.
        right = {
            (0, 1, 2): (("with", 0, 1), ("behind", 0, 1), ("ahead", 0, 1)),
            (0, 2, 1): (("behind", 0, 1), ("with", 0, 1), ("ahead", 1, 0)),
            (1, 0, 2): (("with", 1, 0), ("ahead", 0, 1), ("behind", 0, 1)),
            (1, 2, 0): (("behind", 1, 0), ("ahead", 1, 0), ("with", 0, 1)),
            (2, 0, 1): (("ahead", 0, 1), ("with", 1, 0), ("behind", 1, 0)),
            (2, 1, 0): (("ahead", 1, 0), ("behind", 1, 0), ("with", 1, 0)),
        }
        for way in WAYS:
            found = tuple(turned_formula((word, 0, 1), way) for word in ("with", "behind", "ahead"))
            self.assertEqual(found, right[way])

    def test_it_tells_the_same_in_the_turned_table(self):
        several = formulas(2, 1) + formulas(2, 3) + formulas(2, 5)[::5]
        for table in TABLES + SMALL_TABLES[3:]:
            for way in WAYS:
                made = turned(table, way)
                for formula in several:
                    found = turned_formula(formula, way)
                    for things in itertools.product(range(len(table)), repeat=2):
                        self.assertEqual(told(made, things, found), told(table, things, formula))

    def test_great_formulas(self):
        rng = random.Random(3)
        for number in (5, 17, 60):
            table = shuffled(rng, number)
            for way in WAYS:
                made = turned(table, way)
                several = [BIG, OTHER_BIG, chain(15, "behind", 3, 2)] + [some_formula(rng, 8, 15) for _ in range(10)]
                for formula in several:
                    found = turned_formula(formula, way)
                    self.assertIsNone(formula_error(8, found))
                    self.assertEqual(size(found), 15)
                    self.assertEqual(sorted(names_in(found)), sorted(names_in(formula)))
                    things = tuple(rng.randrange(number) for _ in range(8))
                    self.assertEqual(told(made, things, found), told(table, things, formula))

    def test_back_and_twice(self):
        for formula in (BIG, OTHER_BIG, *formulas(2, 3)):
            for way, then in itertools.product(WAYS, repeat=2):
                found = turned_formula(formula, way)
                self.assertEqual(turned_formula(found, back(way)), formula)
                both = tuple(way[place] for place in then)
                self.assertEqual(turned_formula(found, then), turned_formula(formula, both))

    def test_the_greatest_many_times(self):
        for _ in range(100):
            for way in WAYS:
                self.assertEqual(turned_formula(turned_formula(BIG, way), back(way)), BIG)


if __name__ == "__main__":
    unittest.main()
