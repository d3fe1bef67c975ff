import copy
import itertools
import random
import unittest

from solvedbothsides.bounds import MAX_ROAD
from solvedbothsides.errors import BadSize, NoTable
from solvedbothsides.plain import is_road, plain, road, same
from helper import (
    BIG, F, LONG_CHAINS, ODD, OTHER_BIG, UNDONE, chain, exact, filled, formulas, is_single_move, item, many_facts,
    moved, names_in, paths, replaced, some_formula,
)

EMPTY = (8, (), ())
# All names but the last one are one thing that gives itself with itself.
SEVEN = (8, LONG_CHAINS[2][0], ((0, 7),))
# All names are one thing that gives itself with itself.
EIGHT = (8, LONG_CHAINS[0][0], ())


class IsRoadChecks(unittest.TestCase):
    def check(self, facts, one, other):
        """Check what road tells by a look at each step, and what is_road says of it; return it."""
        found = road(facts, one, other)
        if not same(facts, one, other):
            self.assertIsNone(found)
            return None
        self.assertIsInstance(found, tuple)
        self.assertTrue(1 <= len(found) <= MAX_ROAD)
        self.assertEqual((found[0], found[-1]), (one, other))
        for first, second in zip(found, found[1:]):
            self.assertTrue(is_single_move(facts, first, second), (facts, first, second))
        self.assertIs(is_road(facts, one, other, found), True)
        self.assertIs(is_road(facts, other, one, found[::-1]), True)
        return found

    def yes(self, facts, *formulas_in_order):
        """Check that these formulas are a road, and a road back when turned round."""
        first, last = formulas_in_order[0], formulas_in_order[-1]
        self.assertIs(is_road(facts, first, last, formulas_in_order), True, formulas_in_order)
        self.assertIs(is_road(facts, last, first, formulas_in_order[::-1]), True, formulas_in_order)

    def no(self, facts, *formulas_in_order):
        first, last = formulas_in_order[0], formulas_in_order[-1]
        self.assertIs(is_road(facts, first, last, formulas_in_order), False, formulas_in_order)
        self.assertIs(is_road(facts, last, first, formulas_in_order[::-1]), False, formulas_in_order)


class Road(IsRoadChecks):
    def test_examples(self):
        self.assertIsNone(road(F, 0, 1))
        self.assertEqual(road(F, 1, 3), (1, 3))
        self.check(F, ("behind", 0, 2), 3)
        self.assertIsNotNone(self.check(F, ("with", ("ahead", 3, 2), 1), ("with", 0, ("behind", 0, 2))))
        self.assertIsNone(road(facts=F, one=0, other=1))

    def test_to_itself(self):
        for formula in (0, 3, ("with", 3, 0), ("with", 0, 3), ("behind", 1, ("with", 1, 0))):
            self.assertEqual(road(F, formula, formula), (formula,))

    def test_from_formula_to_moved_formula(self):
        for facts in many_facts(1, 60, only_with_world=True):
            rng = random.Random(str(facts))
            first = some_formula(rng, facts[0], rng.choice((1, 3, 5)))
            formula = first
            for _ in range(25):
                formula = moved(rng, facts, formula)
                self.assertIsNotNone(self.check(facts, first, formula))
            self.check(facts, formula, some_formula(rng, facts[0], 5))

    def test_all_pairs_of_small_formulas(self):
        found = formulas(2, 1) + formulas(2, 3)
        for facts in many_facts(2, 20, greatest=2, only_with_world=True):
            used = [formula for formula in found if max(names_in(formula)) < facts[0]]
            for one, other in itertools.product(used, repeat=2):
                self.check(facts, one, other)

    def test_the_greatest_formulas_on_either_side(self):
        rng = random.Random(3)
        for facts in (EIGHT, SEVEN):
            several = [BIG, OTHER_BIG, chain(15, "with", 5), chain(15, "ahead", 6, 2), chain(15, "behind", 3, 1)]
            several += [some_formula(rng, 8, 15) for _ in range(5)]
            for one, other in itertools.product(several, repeat=2):
                self.check(facts, one, other)

    def test_the_longest(self):
        # Eight names of each side change, and seven words of each fall away.
        found = self.check(EIGHT, chain(15, "with", 5), chain(15, "ahead", 6, 2))
        self.assertLessEqual(len(found), 31)
        for _ in range(30):
            self.assertEqual(road(EIGHT, chain(15, "with", 5), chain(15, "ahead", 6, 2)), found)

    def test_great_formulas_that_are_undone(self):
        a = ("with", ("behind", 0, 1), ("ahead", 2, 3))
        for pattern, letter in UNDONE:
            made = filled(pattern, {**{other: ("with", 4, 5) for other in "abc"}, letter: a})
            for path in paths(made):
                if item(made, path) == 4:
                    made = replaced(made, path, 6)
            facts = (8, ((0, 0, 4), (0, 0, 6), (0, 1, 5), (0, 1, 7)), ())
            self.assertIsNotNone(self.check(facts, made, a))
            self.assertIsNotNone(self.check(facts, a, made))

    def test_to_a_formula_that_is_too_great(self):
        # What is greater than MAX_SIZE is no formula, so that no road leads from it or to it.
        great = ("with", BIG, ("behind", BIG, 0))
        self.assertTrue(same(EMPTY, great, 0))
        self.assertIsNone(road(EMPTY, great, 0))
        self.assertIsNone(road(EMPTY, 0, great))

    def test_without_world(self):
        facts = (3, ((0, 0, 1), (0, 2, 1)), ((0, 2),))
        for one, other in ((0, 0), (0, 1), (0, 2)):
            with self.assertRaises(NoTable) as caught:
                road(facts, one, other)
            self.assertEqual((caught.exception.pair, caught.exception.numbers), (0, (0, 1)))


class IsRoad(IsRoadChecks):
    def test_examples(self):
        self.assertIs(is_road(F, ("behind", 0, 2), 3, (("behind", 0, 2), 3)), True)
        self.assertIs(is_road(F, 1, 3, (1, 3)), True)
        self.assertIs(is_road(F, 1, 2, (1, 2)), False)
        self.assertIs(is_road(facts=F, one=1, other=3, value=(1, 3)), True)

    def test_each_kind_of_move(self):
        parts = (0, ("with", 1, 1), ("ahead", 0, 1))
        for pattern, letter in UNDONE:
            for a, b, c in itertools.product(parts, repeat=3):
                letters = {"a": a, "b": b, "c": c}
                made, short = filled(pattern, letters), letters[letter]
                self.yes((2, (), ()), made, short)
                # Within a formula, in either place of it and deeper.
                for around in (("with", "x", 0), ("behind", 1, "x"), ("ahead", ("with", 1, "x"), 0)):
                    path = next(path for path in paths(around) if item(around, path) == "x")
                    longer = replaced(around, path, made)
                    if len(paths(longer)) <= 15:
                        self.yes((2, (), ()), longer, replaced(around, path, short))

    def test_each_word_and_place_has_to_be_the_right_one(self):
        letters = {"a": 0, "b": 1, "c": 2}
        right = {(filled(pattern, letters), letters[letter]) for pattern, letter in UNDONE}
        self.assertEqual(len(right), 6)
        words = ("with", "behind", "ahead")
        for word, inner, name, one, other in itertools.product(words, words, range(3), range(3), range(3)):
            for made in ((word, name, (inner, one, other)), (word, (inner, one, other), name)):
                for short in range(3):
                    found = any(
                        made == filled(pattern, dict(zip("abc", given))) and short == given["abc".index(letter)]
                        for pattern, letter in UNDONE for given in itertools.product(range(3), repeat=3)
                    )
                    self.assertIs(is_road((3, (), ()), made, short, (made, short)), found)
                    self.assertIs(is_road((3, (), ()), short, made, (short, made)), found)

    def test_an_entry_read_in_all_ways(self):
        facts = (6, ((0, 1, 2), (0, 3, 2), (3, 4, 5)), ())
        for one in (1, 3):
            for formula, name in ((("with", 0, one), 2), (("behind", 0, 2), one), (("ahead", one, 2), 0)):
                self.yes(facts, formula, name)
                self.yes(facts, ("with", formula, 5), ("with", name, 5))
                self.yes(facts, ("behind", ("ahead", 0, formula), 5), ("behind", ("ahead", 0, name), 5))
            for formula, name in ((("with", one, 4), 5), (("behind", one, 5), 4), (("ahead", 4, 5), one)):
                self.yes(facts, formula, name)
        for one, other, out in itertools.product(range(6), repeat=3):
            leads = (0, 1, 2, 1, 4, 5)
            x, y, z = leads[one], leads[other], leads[out]
            for word, entry in (("with", (x, y, z)), ("behind", (x, z, y)), ("ahead", (z, x, y))):
                formula = (word, one, other)
                right = entry in ((0, 1, 2), (1, 4, 5))
                self.assertIs(is_road(facts, formula, out, (formula, out)), right)
                self.assertIs(is_road(facts, out, formula, (out, formula)), right)

    def test_all_three_names_by_the_same_entry(self):
        facts = (5, ((0, 1, 2), (0, 2, 3), (4, 1, 3)), ())
        self.no(facts, ("with", 0, 1), 3)
        self.no(facts, ("with", 4, 1), 2)
        self.no(facts, ("behind", 0, 2), 2)
        self.no(facts, ("ahead", 1, 3), 0)

    def test_names_exchanged(self):
        self.yes(F, 1, 3)
        self.yes(F, ("with", 1, 0), ("with", 3, 0))
        self.yes(F, ("with", 1, 1), ("with", 3, 1), ("with", 3, 3), ("with", 1, 3))
        self.no(F, ("with", 1, 1), ("with", 3, 3))
        self.no(F, 0, 1)
        self.no(F, ("with", 0, 0), ("with", 0, 2))
        # An exchange of names and a move beside it are two moves.
        self.no(F, ("with", 0, ("behind", 0, 1)), 3)
        self.no(F, ("with", 1, ("behind", 3, 0)), 0)
        self.yes(F, ("with", 1, ("behind", 3, 0)), ("with", 1, ("behind", 1, 0)), 0)
        self.yes(F, ("with", 0, ("behind", 0, 1)), 1, 3)
        self.yes(F, ("with", 0, ("behind", 0, 1)), ("with", 0, ("behind", 0, 3)), 3)

    def test_one_formula(self):
        self.yes(F, 0)
        self.yes(F, BIG[1][1])
        self.assertIs(is_road(EMPTY, BIG, BIG, (BIG,)), True)
        self.assertIs(is_road(F, 1, 3, (1,)), False)
        self.assertIs(is_road(F, 1, 3, (3,)), False)

    def test_the_ends(self):
        found = (("behind", 0, 2), 3)
        self.assertIs(is_road(F, ("behind", 0, 2), 1, found), False)
        self.assertIs(is_road(F, 3, 3, found), False)
        self.assertIs(is_road(F, 3, ("behind", 0, 2), found), False)

    def test_left_out_and_twice(self):
        deep = ("with", 2, ("with", 2, ("with", 0, ("behind", 0, ("ahead", 7, ("with", 1, 7))))))
        for facts, one, other in ((EIGHT, BIG, OTHER_BIG), (EMPTY, deep, ("with", 2, ("with", 2, 1)))):
            found = road(facts, one, other)
            self.assertGreater(len(found), 2)
            self.assertIs(is_road(facts, one, other, found), True)
            refused = 0
            for number in range(len(found)):
                # Where an entry tells both, the road may go on without a formula between.
                inner = 0 < number < len(found) - 1
                right = inner and is_single_move(facts, found[number - 1], found[number + 1])
                self.assertIs(is_road(facts, one, other, found[:number] + found[number + 1:]), right)
                refused += not right
                twice = found[:number] + (found[number],) + found[number:]
                self.assertIs(is_road(facts, one, other, twice), False)
            self.assertGreater(refused, 2)
        self.no(F, 1, 1)
        self.no(F, ("with", 0, 1), ("with", 0, 1))
        # There and back again is a road, though formulas stand twice on it.
        self.yes(F, 1, 3, 1)

    def test_how_many_formulas(self):
        for many in (1, 2, 39, 40):
            found = (1, 3) * 20
            self.assertIs(is_road(F, 1, found[many - 1], found[:many]), True)
        for many in (41, 42, 5000):
            found = (1, 3) * 2500
            self.assertIs(is_road(F, 1, found[many - 1], found[:many]), False)
        self.assertIs(is_road(F, 1, 1, ()), False)

    def test_lists(self):
        self.assertIs(is_road(F, 1, 3, [1, 3]), False)
        found = (("behind", 0, ("with", 0, 1)), ("behind", 0, 2), 3)
        self.yes(F, *found)
        self.assertIs(is_road(F, found[0], 3, list(found)), False)
        for number in range(2):
            for path in paths(found[number]):
                if isinstance(item(found[number], path), tuple):
                    wrong = replaced(found[number], path, list(item(found[number], path)))
                    value = found[:number] + (wrong,) + found[number + 1:]
                    self.assertIs(is_road(F, found[0], 3, value), False)

    def test_truths(self):
        self.assertIs(is_road((2, ((0, 0, 0), (0, 1, 0)), ()), 0, 1, (0, 1)), True)
        facts = (2, ((0, 0, 0), (0, 1, 0)), ())
        for value in ((False, 1), (0, True), (False, True), (0, ("with", 0, False), 0, 1), (0, 1, True, 1)):
            self.assertIs(is_road(facts, 0, 1, value), False)
        self.assertIs(is_road(facts, 0, 0, (False,)), False)
        self.assertIs(is_road(facts, 1, 1, (True,)), False)

    def test_formulas_of_other_names(self):
        self.assertIs(is_road(F, 0, 0, (0, ("with", 4, ("behind", 4, 0)), 0)), False)
        self.assertIs(is_road(F, 0, 0, (0, ("with", 3, ("behind", 3, 0)), 0)), True)
        self.assertIs(is_road(F, 0, 0, (0, ("with", -1, ("behind", -1, 0)), 0)), False)
        self.assertIs(is_road((5, *F[1:]), 0, 0, (0, ("with", 4, ("behind", 4, 0)), 0)), True)

    def test_any_value(self):
        for value in ODD + (BadSize(0), (1, None), (1, "3"), (1, (3,)), (1, BadSize(3), 3), (1, [3]), (1, {}), "13",
                            {0: 1, 1: 3}, ((1, 3),), (1, ("gives", 0, 1), 3), (1, ("with", 0), 3), 1, 3,
                            (("with", 0, 1),) * 5, ("x" * 2000,) * 2, (0,) * 5000):
            self.assertIs(is_road(F, 1, 3, value), False)
        nested = 0
        for _ in range(12):
            nested = (nested, nested)
        self.assertIs(is_road(F, 1, 3, nested), False)

    def test_great_formulas_of_a_move(self):
        # What stands for any formula may be great, but all that stands on a road is a formula.
        five = ("with", ("behind", 0, 1), 2)
        seven = ("with", ("behind", 0, 1), ("ahead", 2, 3))
        great = ("with", five, ("behind", five, ("with", 3, 4)))
        self.assertEqual(len(paths(great)), 15)
        self.yes(EMPTY, great, ("with", 3, 4))
        too_great = ("with", seven, ("behind", seven, 3))
        self.assertEqual(len(paths(too_great)), 17)
        self.no(EMPTY, too_great, 3)
        self.no(EMPTY, 3, too_great, 3)
        longer = ("ahead", ("behind", seven, ("with", 5, 6)), ("with", 5, 6))
        self.assertEqual(len(paths(longer)), 15)
        self.yes(EMPTY, seven, longer)
        for pattern, letter in UNDONE:
            made = filled(pattern, {**{other: 7 for other in "abc"}, letter: BIG[1]})
            self.yes(EMPTY, made, BIG[1])
        nine = ("with", seven, 4)
        for pattern, letter in UNDONE:
            made = filled(pattern, {**{other: 7 for other in "abc"}, letter: nine})
            self.assertEqual(len(paths(made)), 13)
            self.yes(EMPTY, made, nine)

    def test_two_places_that_change_at_once(self):
        made = ("with", 0, ("behind", 0, 1))
        self.no(F, ("with", made, made), ("with", 1, 1))
        self.yes(F, ("with", made, made), ("with", 1, made), ("with", 1, 1))
        self.no(F, ("with", made, 3), ("with", 1, 1))

    def test_random_values_by_a_look_of_its_own(self):
        counts = [0, 0]
        for facts in many_facts(4, 60, only_with_world=True):
            rng = random.Random(str(facts))
            for _ in range(20):
                found = [some_formula(rng, facts[0], rng.choice((1, 3, 5, 7)))]
                for _ in range(rng.randint(1, 4)):
                    found.append(moved(rng, facts, found[-1]))
                if rng.random() < 0.4:
                    number = rng.randrange(len(found))
                    path = rng.choice(paths(found[number]))
                    found[number] = replaced(found[number], path, some_formula(rng, facts[0], rng.choice((1, 3))))
                right = all(is_single_move(facts, one, other) for one, other in zip(found, found[1:]))
                right = right and all(len(paths(formula)) <= 15 for formula in found)
                self.assertIs(is_road(facts, found[0], found[-1], tuple(found)), right, (facts, found))
                counts[right] += 1
        self.assertGreater(min(counts), 200)

    def test_all_pairs_of_small_formulas(self):
        found = formulas(2, 1) + formulas(2, 3) + formulas(2, 5)[::3]
        for facts in ((2, (), ()), (2, ((0, 1, 1),), ()), (2, ((0, 0, 1), (0, 1, 1)), ())):
            for one, other in itertools.product(found[:14], found):
                self.assertIs(is_road(facts, one, other, (one, other)), is_single_move(facts, one, other))

    def test_the_greatest_many_times(self):
        found = road(EIGHT, chain(15, "with", 5), chain(15, "ahead", 6, 2))
        for _ in range(20):
            self.assertIs(is_road(EIGHT, found[0], found[-1], found), True)
            self.assertIs(is_road(EIGHT, found[0], found[-1], found[:-1]), False)

    def test_value_stays(self):
        values = [[1, 3], (1, [3]), ([1], {}), ((["with"], 0, [1]), 3), (1, 3)]
        before = copy.deepcopy(values)
        found = [is_road(F, 1, 3, value) for value in values]
        self.assertEqual(found, [False] * 4 + [True])
        self.assertEqual([is_road(F, 1, 3, value) for value in values], found)
        self.assertEqual(exact(values), exact(before))

    def test_without_world(self):
        facts = (3, ((0, 0, 1), (0, 2, 1)), ((0, 2),))
        for value in ODD + ((0,), (0, 2)):
            with self.assertRaises(NoTable) as caught:
                is_road(facts, 0, 0, value)
            self.assertEqual((caught.exception.pair, caught.exception.numbers), (0, (0, 1)))

    def test_what_is_accepted_has_one_plain_form(self):
        for facts in many_facts(5, 30, only_with_world=True):
            rng = random.Random(str(facts))
            one = some_formula(rng, facts[0], 5)
            other = moved(rng, facts, one)
            if is_road(facts, one, other, (one, other)):
                self.assertEqual(plain(facts, one), plain(facts, other))


if __name__ == "__main__":
    unittest.main()
