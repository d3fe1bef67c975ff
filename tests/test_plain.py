import itertools
import random
import unittest

from solvedbothsides.errors import NoTable
from solvedbothsides.facts import merged
from solvedbothsides.formulas import formula_error
from solvedbothsides.plain import plain, same
from solvedbothsides.worlds import verdict
from helper import (
    BIG, F, LONG_CHAINS, OTHER_BIG, TABLES, UNDONE, chain, filled, formulas, is_single_move, many_facts, moved,
    names_in, paths, plain_by_hand, replaced, small_worlds, some_formula, told,
)

EMPTY = (8, (), ())
# What stands for any formula in the moves.
ANY = (0, 1, ("with", 1, 1), ("behind", 0, 1), ("ahead", ("with", 0, 0), 1))


class Plain(unittest.TestCase):
    def test_examples(self):
        self.assertEqual(plain(F, ("with", ("ahead", 3, 2), 1)), 2)
        self.assertEqual(plain(F, ("behind", 1, ("with", 1, 0))), 0)
        self.assertEqual(plain(F, ("with", 3, 0)), ("with", 1, 0))
        self.assertEqual(plain(facts=F, formula=3), 1)

    def test_names(self):
        for facts in many_facts(1, 60, only_with_world=True):
            self.assertEqual(tuple(plain(facts, name) for name in range(facts[0])), merged(facts))

    def test_each_kind_of_what_is_undone(self):
        for pattern, letter in UNDONE:
            for a, b, c in itertools.product(ANY, repeat=3):
                letters = {"a": a, "b": b, "c": c}
                self.assertEqual(plain((2, (), ()), filled(pattern, letters)), letters[letter])

    def test_what_is_nearly_undone(self):
        for formula in (
            ("with", 0, ("behind", 1, 0)), ("with", 0, ("ahead", 0, 1)), ("with", 0, ("with", 0, 1)),
            ("with", ("ahead", 0, 1), 1), ("with", ("behind", 0, 1), 0), ("behind", 0, ("with", 1, 0)),
            ("behind", 0, ("behind", 0, 1)), ("behind", 0, ("ahead", 0, 1)), ("behind", ("ahead", 0, 1), 0),
            ("behind", ("behind", 0, 1), 1), ("ahead", 0, ("with", 0, 1)), ("ahead", 0, ("ahead", 0, 1)),
            ("ahead", ("behind", 0, 1), 0), ("ahead", ("ahead", 0, 1), 1), ("with", ("behind", 0, 1), 1),
        ):
            self.assertEqual(plain((2, (), ()), formula), formula)

    def test_each_reading_of_an_entry(self):
        facts = (5, ((0, 1, 2), (0, 3, 2), (2, 2, 4)), ())
        self.assertEqual(merged(facts), (0, 1, 2, 1, 4))
        for one in (1, 3):
            self.assertEqual(plain(facts, ("with", 0, one)), 2)
            self.assertEqual(plain(facts, ("ahead", one, 2)), 0)
        self.assertEqual(plain(facts, ("behind", 0, 2)), 1)
        self.assertEqual(plain(facts, ("with", 2, ("with", 0, 3))), 4)
        self.assertEqual(plain(facts, ("with", 3, 0)), ("with", 1, 0))
        self.assertEqual(plain(facts, ("behind", 2, 4)), 2)
        self.assertEqual(plain(facts, ("behind", 3, ("with", 1, 4))), 4)

    def test_within_outwards(self):
        for facts in many_facts(2, 150, only_with_world=True):
            rng = random.Random(str(facts))
            for size in (1, 3, 3, 5, 5, 7, 11, 15):
                formula = some_formula(rng, facts[0], size)
                found = plain(facts, formula)
                self.assertEqual(found, plain_by_hand(facts, formula))
                self.assertEqual(plain(facts, found), found)
                self.assertIsNone(formula_error(facts[0], found))

    def test_all_small_formulas(self):
        found = formulas(2, 1) + formulas(2, 3) + formulas(2, 5)
        for facts in ((2, (), ()), (2, ((0, 1, 1),), ((0, 1),)), (2, ((0, 0, 1), (1, 1, 1)), ())):
            for formula in found:
                self.assertEqual(plain(facts, formula), plain_by_hand(facts, formula))

    def test_no_move_makes_it_shorter(self):
        found = formulas(2, 1) + formulas(2, 3) + formulas(2, 5)
        facts = (2, ((0, 1, 1),), ())
        for formula in found:
            if plain(facts, formula) == formula:
                for path in paths(formula):
                    for part in found:
                        made = replaced(formula, path, part)
                        if len(paths(made)) < len(paths(formula)):
                            self.assertFalse(is_single_move(facts, formula, made))

    def test_just_one_for_all_to_which_moves_lead(self):
        for facts in many_facts(3, 60, only_with_world=True):
            rng = random.Random(str(facts))
            first = some_formula(rng, facts[0], rng.choice((1, 3, 5, 7)))
            formula = first
            for _ in range(30):
                formula = moved(rng, facts, formula)
                self.assertEqual(plain(facts, formula), plain(facts, first), (facts, formula))
                self.assertTrue(same(facts, formula, first))

    def test_it_tells_the_same_in_tables(self):
        for facts in many_facts(4, 40, greatest=3, only_with_world=True):
            rng = random.Random(str(facts))
            worlds = small_worlds(facts)
            for _ in range(8):
                formula = some_formula(rng, facts[0], rng.choice((3, 5, 15)))
                for made in worlds:
                    self.assertEqual(told(*made, formula), told(*made, plain(facts, formula)))

    def test_formulas_in_no_facts_tell_the_same_in_tables(self):
        rng = random.Random(5)
        for _ in range(100):
            formula = moved(rng, EMPTY, moved(rng, EMPTY, some_formula(rng, 8, 9)))
            things = tuple(rng.randrange(5) for _ in range(8))
            self.assertEqual(told(TABLES[-1], things, plain(EMPTY, formula)), told(TABLES[-1], things, formula))

    def test_the_greatest_many_times(self):
        everything_one = (8, LONG_CHAINS[0][0], ())
        for _ in range(50):
            self.assertEqual(plain(EMPTY, BIG), BIG)
            self.assertEqual(plain(EMPTY, OTHER_BIG), OTHER_BIG)
            self.assertEqual(plain(everything_one, BIG), 0)
            self.assertEqual(plain(everything_one, chain(15, "ahead", 7)), 0)
        deep = 7
        for _ in range(3):
            deep = ("with", 0, ("behind", 0, deep))
        self.assertEqual(plain(EMPTY, deep), 7)
        self.assertEqual(plain(EMPTY, ("with", BIG[1], ("behind", BIG[1], BIG[2]))), BIG[2])

    def test_somewhat_beyond_the_greatest_size(self):
        self.assertEqual(plain(EMPTY, ("with", BIG, ("behind", BIG, OTHER_BIG))), OTHER_BIG)

    def test_without_world(self):
        facts = (3, ((0, 0, 1), (0, 2, 1)), ((0, 2),))
        with self.assertRaises(NoTable) as caught:
            plain(facts, 0)
        self.assertEqual((caught.exception.pair, caught.exception.numbers), (0, (0, 1)))


class Same(unittest.TestCase):
    def test_examples(self):
        self.assertIs(same(F, ("behind", 0, 2), 3), True)
        self.assertIs(same(F, 0, 1), False)
        self.assertIs(same(facts=F, one=1, other=3), True)
        self.assertIs(same(F, 0, 2), False)

    def test_just_where_verdict_tells_always(self):
        counts = [0, 0]
        for facts in many_facts(6, 200, only_with_world=True):
            rng = random.Random(str(facts))
            for size, other_size in ((1, 1), (1, 3), (3, 3), (3, 5), (1, 15), (15, 15)):
                one = some_formula(rng, facts[0], size)
                formula = one
                for _ in range(5):
                    formula = moved(rng, facts, formula)
                for other in (some_formula(rng, facts[0], other_size), formula):
                    right = verdict(facts, one, other) == "always"
                    self.assertIs(same(facts, one, other), right, (facts, one, other))
                    self.assertIs(same(facts, other, one), right)
                    self.assertIs(plain_by_hand(facts, one) == plain_by_hand(facts, other), right)
                    counts[right] += 1
        self.assertGreater(min(counts), 500)

    def test_all_pairs_of_small_formulas(self):
        found = formulas(2, 1) + formulas(2, 3)
        for facts in many_facts(7, 30, greatest=2, only_with_world=True):
            used = [formula for formula in found if max(names_in(formula)) < facts[0]]
            for one, other in itertools.product(used, repeat=2):
                self.assertIs(same(facts, one, other), verdict(facts, one, other) == "always")

    def test_without_world(self):
        facts = (8, LONG_CHAINS[0][0], ((0, 6),))
        with self.assertRaises(NoTable) as caught:
            same(facts, BIG, BIG)
        self.assertEqual((caught.exception.pair, caught.exception.numbers), (0, tuple(range(10))))


if __name__ == "__main__":
    unittest.main()
