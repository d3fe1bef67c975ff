import copy
import itertools
import random
import unittest

from solvedbothsides.bounds import MAX_TABLE
from solvedbothsides.errors import BadSize, NoTable, TableError
from solvedbothsides.facts import merged
from solvedbothsides.worlds import joined, parted, verdict, world, world_error, world_of
from helper import (
    BIG, F, LONG_CHAINS, ODD, OTHER_BIG, T, by_hand, chain, exact, facts_with_world, formulas, is_world, lined,
    many_facts, names_in, small_worlds, some_formula, told,
)

EMPTY = (8, (), ())
# Eight names that must all be unlike things but for six pairs, and ten entries.
FULL = (
    8,
    ((0, 0, 1), (0, 1, 2), (1, 0, 3), (1, 1, 0), (2, 3, 4), (3, 2, 4), (4, 5, 6), (5, 6, 7), (6, 7, 5), (7, 4, 1)),
    ((0, 1), (0, 2), (1, 7), (3, 4), (4, 6), (5, 7)),
)


class WorldError(unittest.TestCase):
    def test_examples(self):
        self.assertIsNone(world_error(F, (T, (0, 1, 2, 1))))
        self.assertEqual(world_error(F, (T, (0, 1, 1, 1))), (0, "entry"))
        self.assertEqual(world_error(F, (T, (0, 0, 0, 0))), (0, "unlike"))
        self.assertIsNone(world_error(facts=F, value=(T, (0, 1, 2, 1))))

    def test_no_pair(self):
        for value in ODD + (T, (T,), (T, (0, 1, 2, 1), None), [T, (0, 1, 2, 1)], {0: T}, "TT"):
            if not (isinstance(value, tuple) and len(value) == 2):
                self.assertEqual(world_error(F, value), (None, "world"))

    def test_no_table(self):
        wrong = ODD + (
            list(T), [list(row) for row in T], T[:2], ((0, 1), (0, 1)), lined(61, 1, 1, 0), (T, T), ((True,),),
        )
        for table in wrong:
            if table != ((0,),):
                self.assertEqual(world_error(F, (table, (0, 1, 2, 1))), (None, "table"))
                self.assertEqual(world_error(F, (table, None)), (None, "table"))

    def test_wrong_things(self):
        wrong = ODD + (
            (0, 1, 2), (0, 1, 2, 1, 0), [0, 1, 2, 1], (0, 1, 2, 3), (-1, 1, 2, 1), (False, 1, 2, 1), (0, True, 2, True),
            (0, 1, 2, None), (0, 1, 2, "1"), (0, 1, 2, (1,)), "0121", {0: 0, 1: 1, 2: 2, 3: 1}, (0, 1, 2, [1]),
        )
        for things in wrong:
            if things != (0, 1, 2, 3):
                self.assertEqual(world_error(F, (T, things)), (None, "things"))
        self.assertEqual(world_error(F, (T, (0, 1, 2, 3))), (None, "things"))
        self.assertIsNone(world_error((1, (), ()), (((0,),), (0,))))
        self.assertEqual(world_error((1, (), ()), (((0,),), (1,))), (None, "things"))
        self.assertEqual(world_error((1, (), ()), (((0,),), ())), (None, "things"))

    def test_the_first_that_does_not_hold(self):
        facts = (3, ((0, 0, 0), (0, 1, 2), (1, 1, 1)), ((0, 1), (0, 2), (1, 2)))
        table = ((0, 2, 1), (2, 1, 0), (1, 0, 2))
        self.assertIsNone(world_error(facts, (table, (0, 1, 2))))
        for things in itertools.product(range(3), repeat=3):
            holding = [table[things[x]][things[y]] == things[z] for x, y, z in facts[1]]
            apart = [things[x] != things[y] for x, y in facts[2]]
            right = None
            if False in holding:
                right = (holding.index(False), "entry")
            elif False in apart:
                right = (apart.index(False), "unlike")
            self.assertEqual(world_error(facts, (table, things)), right)

    def test_greatest(self):
        table = lined(60, 1, 1, 0)
        facts = facts_with_world(random.Random(1), 8, 10, 6, 1)
        self.assertIsNone(world_error(facts, (table, (0,) * 8)))
        self.assertEqual(world_error(facts, (table, (59,) * 8)), (0, "entry"))
        self.assertIsNone(world_error(EMPTY, (table, (59,) * 8)))
        self.assertEqual(world_error(EMPTY, (table, (60,) * 8)), (None, "things"))

    def test_facts_without_a_world(self):
        self.assertEqual(world_error((2, (), ((0, 1),)), (((0,),), (0, 0))), (0, "unlike"))
        facts = (3, ((0, 0, 1), (0, 2, 1)), ((0, 2),))
        for table in (T, ((0, 1), (1, 0))):
            for things in itertools.product(range(len(table)), repeat=3):
                self.assertIsNotNone(world_error(facts, (table, things)))

    def test_value_stays(self):
        values = [[T, (0, 1, 2, 1)], ([[0]], [0]), (T, [0, 1, 2, 1]), (T, (0, 1, 2, 1))]
        before = copy.deepcopy(values)
        found = [world_error(F, value) for value in values]
        self.assertEqual([world_error(F, value) for value in values], found)
        self.assertEqual(exact(values), exact(before))


def entries_of(formula, many):
    """Return entries for all parts of a formula, the thing that it tells, and how many things there are then."""
    if isinstance(formula, int):
        return [], formula, many
    first, one, many = entries_of(formula[1], many)
    second, other, many = entries_of(formula[2], many)
    entry = {"with": (one, other, many), "behind": (one, many, other), "ahead": (many, one, other)}[formula[0]]
    return first + second + [entry], many, many + 1


def verdict_by_hand(facts, one, other):
    """Return what verdict should tell, by what must be one thing among all that the parts tell."""
    names, entries, unlike = facts
    first, one, many = entries_of(one, names)
    second, other, many = entries_of(other, many)
    entries = [*entries, *first, *second]
    leads = by_hand(many, entries)
    if leads[one] == leads[other]:
        return "always"
    # Two entries more that make the two things one.
    leads = by_hand(many + 2, entries + [(one, many, many + 1), (other, many, many + 1)])
    return "never" if any(leads[x] == leads[y] for x, y in unlike) else "open"


class AsksForWorlds(unittest.TestCase):
    def check(self, facts, one, other):
        """Check what verdict tells by worlds in which the formulas part and agree; return it."""
        found = verdict(facts, one, other)
        self.assertIn(found, ("always", "never", "open"))
        apart, together = parted(facts, one, other), joined(facts, one, other)
        self.assertEqual((apart is None, together is None), (found == "always", found == "never"), (facts, one, other))
        for made, is_same in ((apart, False), (together, True)):
            if made is not None:
                self.assertTrue(is_world(facts, made), (facts, one, other))
                self.assertIsNone(world_error(facts, made))
                self.assertLessEqual(len(made[0]), MAX_TABLE)
                self.assertEqual(told(*made, one) == told(*made, other), is_same, (facts, one, other))
        return found


class Verdict(AsksForWorlds):
    def test_examples(self):
        self.assertEqual(verdict(F, ("with", 0, 0), 2), "never")
        self.assertEqual(verdict(F, ("with", 1, 0), 2), "open")
        self.assertEqual(verdict(F, ("with", 0, 3), 2), "always")
        self.assertEqual(verdict(facts=F, one=("with", 0, 3), other=2), "always")
        self.assertIsNone(joined(F, ("with", 0, 0), 2))
        self.assertIsNone(parted(F, 1, 3))
        self.assertTrue(is_world(F, parted(F, ("with", 1, 0), 2)))
        self.assertIsNone(joined(facts=F, one=0, other=1))
        self.assertIsNone(parted(facts=F, one=1, other=3))

    def test_names(self):
        self.assertEqual(self.check(F, 0, 0), "always")
        self.assertEqual(self.check(F, 1, 3), "always")
        self.assertEqual(self.check(F, 0, 1), "never")
        self.assertEqual(self.check(F, 0, 3), "never")
        self.assertEqual(self.check(F, 0, 2), "open")

    def test_undone(self):
        for a, b in itertools.product((0, ("with", 1, 1), ("ahead", 0, ("behind", 1, 0))), repeat=2):
            for one, other in (
                (("with", a, ("behind", a, b)), b),
                (("with", ("ahead", a, b), a), b),
                (("behind", a, ("with", a, b)), b),
                (("behind", ("ahead", a, b), b), a),
                (("ahead", a, ("with", b, a)), b),
                (("ahead", ("behind", a, b), b), a),
            ):
                self.assertEqual(self.check((2, (), ()), one, other), "always")
                self.assertEqual(self.check((2, ((0, 0, 1),), ((0, 1),)), other, one), "always")

    def test_never_by_what_follows_alone(self):
        # Were 0 with 1 the same as 0 with 2, 1 and 2 would be one thing.
        self.assertEqual(self.check((3, (), ((1, 2),)), ("with", 0, 1), ("with", 0, 2)), "never")
        self.assertEqual(self.check((3, (), ((1, 2),)), ("behind", 0, 1), ("behind", 0, 2)), "never")
        self.assertEqual(self.check((3, (), ((1, 2),)), ("ahead", 1, 0), ("ahead", 2, 0)), "never")
        self.assertEqual(self.check((3, (), ((1, 2),)), ("with", 0, 1), ("with", 1, 0)), "open")
        self.assertEqual(self.check((3, ((0, 1, 2),), ((1, 2),)), ("with", 0, ("with", 0, 1)), 2), "never")

    def test_in_all_small_tables(self):
        found = formulas(3, 1) + formulas(3, 3)
        several = many_facts(1, 70, greatest=3, only_with_world=True)
        counts = {"always": 0, "never": 0, "open": 0}
        for facts in several:
            used = [formula for formula in found if max(names_in(formula)) < facts[0]]
            worlds = small_worlds(facts)
            tells = {str(formula): [told(*made, formula) for made in worlds] for formula in used}
            for one, other in itertools.combinations_with_replacement(used, 2):
                sames = [x == y for x, y in zip(tells[str(one)], tells[str(other)])]
                right = verdict(facts, one, other)
                counts[right] += 1
                if right == "always":
                    self.assertNotIn(False, sames, (facts, one, other))
                elif right == "never":
                    self.assertNotIn(True, sames, (facts, one, other))
        self.assertGreater(min(counts.values()), 300, counts)

    def test_longer_formulas_in_all_small_tables(self):
        rng = random.Random(2)
        for facts in many_facts(3, 25, greatest=3, only_with_world=True):
            worlds = small_worlds(facts)
            for _ in range(6):
                one = some_formula(rng, facts[0], rng.choice((5, 7, 11, 15)))
                for other in (some_formula(rng, facts[0], rng.choice((1, 3, 5, 15))), ("with", 0, ("behind", 0, one))):
                    sames = [told(*made, one) == told(*made, other) for made in worlds]
                    right = self.check(facts, one, other)
                    if right != "open":
                        self.assertNotIn(right == "never", sames)

    def test_by_hand(self):
        counts = {"always": 0, "never": 0, "open": 0}
        for facts in many_facts(9, 150, only_with_world=True):
            rng = random.Random(str(facts))
            for size, other_size in ((1, 1), (3, 1), (3, 3), (5, 3), (7, 7)):
                one, other = some_formula(rng, facts[0], size), some_formula(rng, facts[0], other_size)
                right = verdict_by_hand(facts, one, other)
                self.assertEqual(verdict(facts, one, other), right, (facts, one, other))
                counts[right] += 1
        self.assertGreater(min(counts.values()), 40, counts)

    def test_parted_and_joined(self):
        found = formulas(3, 1) + formulas(3, 3)
        for facts in many_facts(4, 12, greatest=3, only_with_world=True):
            used = [formula for formula in found if max(names_in(formula)) < facts[0]]
            for one, other in itertools.product(used[::2], used[::3]):
                self.check(facts, one, other)

    def test_eight_names(self):
        rng = random.Random(5)
        counts = {"always": 0, "never": 0, "open": 0}
        for facts in many_facts(6, 120, only_with_world=True):
            for size, other_size in ((15, 15), (1, 15), (5, 3), (3, 3), (3, 1), (1, 1)):
                one = some_formula(rng, facts[0], size)
                counts[self.check(facts, one, some_formula(rng, facts[0], other_size))] += 1
            counts[self.check(facts, one, ("behind", 0, ("with", 0, one)))] += 1
        self.assertGreater(min(counts.values()), 40, counts)

    def test_the_greatest_many_times(self):
        for facts in (EMPTY, FULL, (8, LONG_CHAINS[2][0], ((0, 7),)), (8, FULL[1], ())):
            for one, other in (
                (BIG, OTHER_BIG), (BIG, BIG), (BIG, 7), (chain(15, "with", 7), chain(15, "ahead", 6, 2)),
                (chain(15, "behind", 0, 2), chain(15, "behind", 1, 2)),
            ):
                for _ in range(5):
                    right = self.check(facts, one, other)
                    if facts[1] == ():
                        self.assertEqual(right, "always" if one == other else "open")
        self.assertEqual(verdict(EMPTY, BIG, OTHER_BIG), "open")

    def test_eight_unlike_things_and_all_parts_unlike(self):
        # Twenty-two things that nothing makes one: names, and what the parts of both formulas tell.
        table, things = parted(EMPTY, BIG, OTHER_BIG)
        self.assertTrue(is_world(EMPTY, (table, things)))
        self.assertEqual(len(set(things)), 8)

    def test_without_world(self):
        facts = (3, ((0, 0, 1), (0, 2, 1)), ((0, 2),))
        for function in (verdict, parted, joined):
            with self.assertRaises(NoTable) as caught:
                function(facts, 0, 0)
            self.assertIsInstance(caught.exception, TableError)
            self.assertEqual((caught.exception.pair, caught.exception.numbers), (0, (0, 1)))


class World(unittest.TestCase):
    def check(self, facts, made):
        self.assertTrue(is_world(facts, made), facts)
        self.assertIsNone(world_error(facts, made))
        self.assertLessEqual(len(made[0]), MAX_TABLE)

    def test_examples(self):
        self.check(F, world(F))
        self.check(F, world(facts=F))
        self.check(F, world_of(facts=F, size=9))
        self.assertEqual(len(world_of(F, 9)[0]), 9)

    def test_one_thing_just_if_merged_tells_it(self):
        for facts in many_facts(7, 300, only_with_world=True):
            made = world(facts)
            self.check(facts, made)
            leads = merged(facts)
            for one, other in itertools.product(range(facts[0]), repeat=2):
                self.assertEqual(made[1][one] == made[1][other], leads[one] == leads[other], facts)

    def test_least_and_greatest(self):
        for facts in ((1, (), ()), (1, ((0, 0, 0),), ()), EMPTY, FULL, (8, LONG_CHAINS[0][0], ())):
            for _ in range(3):
                self.check(facts, world(facts))

    def test_every_size(self):
        several = [(1, (), ()), (1, ((0, 0, 0),), ()), F, EMPTY, FULL, (8, LONG_CHAINS[0][0], ()),
                   (2, ((0, 0, 1), (1, 1, 0)), ((0, 1),)), (5, ((0, 0, 1), (0, 0, 2), (1, 3, 4)), ((3, 4),))]
        for facts in several + many_facts(8, 12, only_with_world=True):
            for size in range(2 * facts[0], MAX_TABLE + 1):
                made = world_of(facts, size)
                self.check(facts, made)
                self.assertEqual(len(made[0]), size)

    def test_size_refused(self):
        for facts in (F, EMPTY, (1, (), ()), (3, ((0, 0, 1), (0, 2, 1)), ((0, 2),))):
            least = 2 * facts[0]
            for size in ODD + (0, 1, least - 1, 61, 62, (9,), [9], "9", True, False):
                if not (type(size) is int and least <= size <= 60):
                    for _ in range(2):
                        with self.subTest(size), self.assertRaises(BadSize) as caught:
                            world_of(facts, size)
                        self.assertIsInstance(caught.exception, TableError)
                        self.assertIs(caught.exception.size, size)

    def test_bad_size_ahead_of_no_table(self):
        facts = (3, ((0, 0, 1), (0, 2, 1)), ((0, 2),))
        self.assertRaises(BadSize, world_of, facts, 5)
        self.assertRaises(BadSize, world_of, facts, 61)
        for size in (6, 30, 60):
            with self.assertRaises(NoTable) as caught:
                world_of(facts, size)
            self.assertEqual((caught.exception.pair, caught.exception.numbers), (0, (0, 1)))
        self.assertRaises(NoTable, world, facts)


if __name__ == "__main__":
    unittest.main()
