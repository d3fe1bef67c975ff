import copy
import itertools
import unittest

from solvedbothsides.bounds import MAX_ENTRIES, MAX_NAMES, MAX_UNLIKE
from solvedbothsides.errors import NoTable
from solvedbothsides.facts import clash, facts_error, forcing, merged
from solvedbothsides.follow import alike, follows, spare
from solvedbothsides.givens import reasons, torn, verdict_given, world_given
from solvedbothsides.least import least_size
from solvedbothsides.placing import placed, places
from solvedbothsides.plain import is_road, plain, road, same
from solvedbothsides.texts import facts_text, read_facts
from solvedbothsides.turning import turned_facts
from solvedbothsides.worlds import joined, parted, verdict, world, world_error, world_of
from helper import F, LONG_CHAINS, ODD, T, by_hand, exact, many_facts

# Ten entries and six pairs of eight names, the most that facts have.
TEN = tuple(sorted((x, (x * 3 + 1) % 8, (x * 5 + 2) % 8) for x in range(8))) + ((7, 7, 6), (7, 7, 7))
SIX = ((0, 1), (0, 7), (1, 2), (3, 4), (5, 6), (6, 7))


def least_by_hand(entries, is_enough):
    """Return the least of the shortest tuples of numbers of entries that is_enough says yes to, else None."""
    for many in range(len(entries) + 1):
        for numbers in itertools.combinations(range(len(entries)), many):
            if is_enough(numbers):
                return numbers
    return None


class FactsError(unittest.TestCase):
    def test_facts(self):
        for value in ((1, (), ()), (8, (), ()), (1, ((0, 0, 0),), ()), (2, (), ((0, 1),)), F, (8, TEN, SIX)):
            self.assertIsNone(facts_error(value))
        self.assertIsNone(facts_error(value=F))
        for facts in many_facts(1, 200):
            self.assertIsNone(facts_error(facts))

    def test_examples(self):
        self.assertEqual(facts_error((2, ((1, 0, 0), (0, 0, 0)), ())), (1, "order"))

    def test_no_triple(self):
        for value in ODD + ((2, ()), (2, (), (), ()), [2, (), ()], list(F), {0: 2, 1: (), 2: ()}, "2()", (F,)):
            if not (isinstance(value, tuple) and len(value) == 3):
                with self.subTest(value):
                    self.assertEqual(facts_error(value), (None, "facts"))

    def test_names(self):
        for value in ODD + (0, -1, 9, 10, "2", 2 * 10 ** 58, (2,), [2]):
            with self.subTest(value):
                self.assertEqual(facts_error((value, (), ())), (None, "names"))
        for names in range(1, MAX_NAMES + 1):
            self.assertIsNone(facts_error((names, (), ())))

    def test_entries(self):
        for value in ODD + ([], [(0, 0, 0)], {(0, 0, 0): 1}, "", None, 3):
            if not isinstance(value, tuple):
                with self.subTest(value):
                    self.assertEqual(facts_error((2, value, ())), (None, "entries"))
        many = tuple(itertools.product(range(3), repeat=3))
        self.assertIsNone(facts_error((3, many[:MAX_ENTRIES], ())))
        self.assertEqual(facts_error((3, many[:MAX_ENTRIES + 1], ())), (None, "entries"))
        self.assertEqual(facts_error((3, (None,) * (MAX_ENTRIES + 1), ())), (None, "entries"))

    def test_entry(self):
        wrong = ODD + (
            0, (0, 0), (0, 0, 0, 0), [0, 0, 0], (0, 0, 2), (0, 2, 0), (2, 0, 0), (-1, 0, 0), (0, -1, 0), (0, 0, -1),
            (True, 0, 0), (0, False, 0), (0, 0, True), ("0", 0, 0), (0, None, 0), (0, 0, (0,)), "000",
        )
        for value in wrong:
            with self.subTest(value):
                self.assertEqual(facts_error((2, (value,), ())), (0, "entry"))
                self.assertEqual(facts_error((2, ((0, 0, 0), value), ())), (1, "entry"))
                self.assertEqual(facts_error((2, ((0, 0, 0), value, None), ((1, 0),))), (1, "entry"))

    def test_order_of_entries(self):
        self.assertEqual(facts_error((2, ((0, 0, 0), (0, 0, 0)), ())), (1, "order"))
        self.assertEqual(facts_error((2, ((0, 0, 0), (0, 1, 0), (0, 0, 1)), ())), (2, "order"))
        self.assertEqual(facts_error((2, ((0, 0, 1), (0, 0, 0), None), ())), (1, "order"))
        self.assertEqual(facts_error((2, ((0, 0, 1), (0, 0, 2), (0, 0, 0)), ())), (1, "entry"))
        for numbers in itertools.combinations(range(MAX_ENTRIES), 2):
            entries = list(sorted(LONG_CHAINS[0][0]))
            one, other = numbers
            entries[one], entries[other] = entries[other], entries[one]
            self.assertEqual(facts_error((8, tuple(entries), ())), (one + 1, "order"))

    def test_unlike(self):
        for value in ODD + ([], [(0, 1)], "", None, 3):
            if not isinstance(value, tuple):
                with self.subTest(value):
                    self.assertEqual(facts_error((2, (), value)), (None, "unlike"))
        pairs = tuple(itertools.combinations(range(5), 2))
        self.assertIsNone(facts_error((5, (), pairs[:MAX_UNLIKE])))
        self.assertEqual(facts_error((5, (), pairs[:MAX_UNLIKE + 1])), (None, "unlike"))
        self.assertEqual(facts_error((5, (), (None,) * (MAX_UNLIKE + 1))), (None, "unlike"))

    def test_pair(self):
        wrong = ODD + (
            0, (0,), (0, 1, 2), [0, 1], (0, 0), (1, 1), (1, 0), (2, 1), (0, 3), (-1, 0), (-2, -1), (False, 1),
            (0, True), (None, 1), ("0", "1"), (0, (1,)), "01",
        )
        for value in wrong:
            with self.subTest(value):
                self.assertEqual(facts_error((3, (), (value,))), (0, "pair"))
                self.assertEqual(facts_error((3, (), ((0, 1), value))), (1, "pair"))
                self.assertEqual(facts_error((3, (), ((0, 1), value, None))), (1, "pair"))

    def test_order_of_pairs(self):
        self.assertEqual(facts_error((3, (), ((0, 1), (0, 1)))), (1, "order"))
        self.assertEqual(facts_error((3, (), ((0, 1), (1, 2), (0, 2)))), (2, "order"))
        self.assertEqual(facts_error((3, (), ((0, 2), (0, 1), None))), (1, "order"))
        self.assertEqual(facts_error((3, (), ((0, 2), (1, 0)))), (1, "pair"))

    def test_two_things_wrong(self):
        steps = [
            ((None, "names"), 9, 0),
            ((None, "entries"), [], 1),
            ((0, "entry"), (None,), 1),
            ((1, "order"), ((0, 0, 0), (0, 0, 0)), 1),
            ((None, "unlike"), [], 2),
            ((0, "pair"), ((1, 0),), 2),
            ((1, "order"), ((0, 1), (0, 1)), 2),
        ]
        for (first, one, place), (_, other, later) in itertools.combinations(steps, 2):
            if place < later:
                value = [2, (), ()]
                value[place], value[later] = one, other
                with self.subTest(value):
                    self.assertEqual(facts_error(tuple(value)), first)

    def test_great_values(self):
        self.assertEqual(facts_error((0,) * 5000), (None, "facts"))
        self.assertEqual(facts_error((8, (0,) * 5000, ())), (None, "entries"))
        self.assertEqual(facts_error((8, ((0,) * 5000,), ())), (0, "entry"))
        self.assertEqual(facts_error((8, (), ("x" * 2000,))), (0, "pair"))

    def test_value_stays(self):
        values = [[2, [], []], (2, [[0, 0, 0]], {}), (2, ([0, 0, 0],), ([0, 1],)), {"a": [F]}, (8, TEN, SIX)]
        ahead = copy.deepcopy(values)
        told = [facts_error(value) for value in values]
        self.assertEqual(exact(values), exact(ahead))
        self.assertEqual([facts_error(value) for value in values], told)


class Merged(unittest.TestCase):
    def test_examples(self):
        self.assertEqual(merged(F), (0, 1, 2, 1))
        self.assertEqual(merged(facts=F), (0, 1, 2, 1))

    def test_nothing(self):
        for names in range(1, 9):
            self.assertEqual(merged((names, (), ())), tuple(range(names)))

    def test_each_place(self):
        self.assertEqual(merged((3, ((0, 0, 1), (0, 0, 2)), ())), (0, 1, 1))
        self.assertEqual(merged((3, ((0, 1, 0), (0, 2, 0)), ())), (0, 1, 1))
        self.assertEqual(merged((3, ((1, 0, 0), (2, 0, 0)), ())), (0, 1, 1))

    def test_unlike_names_do_not_matter(self):
        self.assertEqual(merged((3, ((0, 0, 1), (0, 0, 2)), ((1, 2),))), (0, 1, 1))

    def test_long_chains(self):
        for entries, (one, other) in LONG_CHAINS:
            found = merged((8, entries, ()))
            self.assertEqual(found[one], found[other])
            self.assertEqual(found, by_hand(8, entries))
            for number in range(10):
                found = merged((8, entries[:number] + entries[number + 1:], ()))
                self.assertNotEqual(found[one], found[other])

    def test_by_hand(self):
        for facts in many_facts(2, 1500):
            self.assertEqual(merged(facts), by_hand(facts[0], facts[1]), facts)


class Forcing(unittest.TestCase):
    def test_examples(self):
        self.assertEqual((forcing(F, 1, 3), forcing(F, 0, 2)), ((0, 1), None))
        self.assertEqual(forcing(facts=F, one=3, other=1), (0, 1))

    def test_the_same_name(self):
        for facts in (F, (1, (), ()), (8, LONG_CHAINS[0][0], ()), (3, ((0, 0, 0), (0, 1, 0)), ((0, 1),))):
            for name in range(facts[0]):
                self.assertEqual(forcing(facts, name, name), ())

    def test_all_ten(self):
        for entries, (one, other) in LONG_CHAINS:
            for _ in range(3):
                self.assertEqual(forcing((8, entries, ()), one, other), tuple(range(10)))

    def test_the_least_of_the_shortest(self):
        entries = ((0, 0, 1), (0, 0, 2), (1, 1, 1), (1, 1, 2), (2, 1, 0), (2, 2, 0))
        self.assertEqual(forcing((3, entries, ()), 1, 2), (0, 1))
        self.assertEqual(forcing((3, entries[1:], ()), 1, 2), (1, 2))
        self.assertEqual(forcing((3, entries[2:], ()), 1, 2), (0, 1))
        self.assertEqual(forcing((3, entries[3:], ()), 2, 1), (1, 2))

    def check(self, facts):
        names, entries, _ = facts
        leads = {
            numbers: by_hand(names, [entries[number] for number in numbers])
            for many in range(len(entries) + 1)
            for numbers in itertools.combinations(range(len(entries)), many)
        }
        for one, other in itertools.product(range(names), repeat=2):
            right = least_by_hand(entries, lambda numbers: leads[numbers][one] == leads[numbers][other])
            self.assertEqual(forcing(facts, one, other), right, (facts, one, other))
            self.assertEqual(right is None, merged(facts)[one] != merged(facts)[other])

    def test_by_hand(self):
        for facts in many_facts(3, 120):
            if len(facts[1]) < 8:
                self.check(facts)

    def test_ten_entries_by_hand(self):
        for facts in [facts for facts in many_facts(4, 300) if len(facts[1]) == 10][:6]:
            self.check(facts)

    def test_facts_without_a_world(self):
        self.assertEqual(forcing((3, ((0, 0, 1), (0, 2, 1)), ((0, 2),)), 0, 2), (0, 1))


class Clash(unittest.TestCase):
    def test_examples(self):
        self.assertIsNone(clash(F))
        self.assertEqual(clash((3, ((0, 0, 1), (0, 2, 1)), ((0, 2),))), (0, (0, 1)))
        self.assertIsNone(clash(facts=F))

    def test_no_pairs_and_no_entries(self):
        self.assertIsNone(clash((8, LONG_CHAINS[0][0], ())))
        self.assertIsNone(clash((8, (), SIX)))

    def test_all_ten(self):
        for entries, pair in LONG_CHAINS:
            self.assertEqual(clash((8, entries, (pair,))), (0, tuple(range(10))))

    def test_two_pairs_fall_together(self):
        entries = ((0, 0, 1), (0, 0, 2), (3, 3, 4), (3, 3, 5))
        for pairs, right in (
            (((1, 2), (4, 5)), (0, (0, 1))),
            (((0, 3), (1, 2), (4, 5)), (1, (0, 1))),
            (((0, 1), (4, 5)), (1, (2, 3))),
            (((4, 5),), (0, (2, 3))),
            (((0, 3), (4, 5)), (1, (2, 3))),
        ):
            self.assertEqual(clash((6, entries, pairs)), right)

    def test_the_entries_come_ahead_of_the_pair(self):
        # The second pair falls together by fewer entries than the first one.
        entries = ((0, 0, 1), (0, 0, 2), (1, 3, 4), (2, 3, 5))
        self.assertEqual(clash((6, entries, ((1, 2), (4, 5)))), (0, (0, 1)))
        entries = ((0, 0, 4), (0, 0, 5), (4, 3, 1), (5, 3, 2))
        self.assertEqual(clash((6, entries, ((1, 2), (4, 5)))), (1, (0, 1)))

    def test_the_first_of_the_pairs_that_fall_together_by_the_same_entries(self):
        entries = ((0, 0, 1), (0, 0, 2), (0, 0, 3))
        self.assertEqual(clash((4, entries, ((1, 2), (1, 3), (2, 3)))), (0, (0, 1)))
        self.assertEqual(clash((4, entries, ((1, 3), (2, 3)))), (0, (0, 2)))
        self.assertEqual(clash((4, entries, ((2, 3),))), (0, (1, 2)))
        both = ((0, 0, 1), (0, 0, 2), (1, 0, 3), (2, 0, 4))
        self.assertEqual(clash((5, both, ((3, 4),))), (0, (0, 1, 2, 3)))
        self.assertEqual(clash((5, both, ((0, 1), (3, 4)))), (1, (0, 1, 2, 3)))

    def check(self, facts):
        names, entries, unlike = facts

        def first_pair(numbers):
            leads = by_hand(names, [entries[number] for number in numbers])
            return next((k for k, (one, other) in enumerate(unlike) if leads[one] == leads[other]), None)

        numbers = least_by_hand(entries, lambda numbers: first_pair(numbers) is not None)
        right = None if numbers is None else (first_pair(numbers), numbers)
        self.assertEqual(clash(facts), right, facts)
        return right

    def test_by_hand(self):
        found = [self.check(facts) for facts in many_facts(5, 150) if len(facts[1]) < 8]
        self.assertGreater(sum(right is not None for right in found), 10)
        self.assertGreater(sum(right is None for right in found), 10)
        for facts in [facts for facts in many_facts(6, 300) if len(facts[1]) == 10 and facts[2]][:6]:
            self.check(facts)

    def test_a_world_just_if_no_clash(self):
        for facts in many_facts(7, 200):
            if clash(facts) is None:
                self.assertIsNone(world_error(facts, world(facts)))
            else:
                self.assertRaises(NoTable, world, facts)


class WithoutWorld(unittest.TestCase):
    """Which functions raise NoTable, with what clash tells."""

    FACTS = (
        (3, ((0, 0, 1), (0, 2, 1)), ((0, 2),)),
        (6, ((0, 0, 4), (0, 0, 5), (4, 3, 1), (5, 3, 2)), ((1, 2), (4, 5))),
        (8, LONG_CHAINS[0][0], ((0, 6),)),
        (8, LONG_CHAINS[1][0], ((0, 7), (1, 4), (2, 5))),
    )

    def check(self, function, facts, *rest):
        pair, numbers = clash(facts)
        for _ in range(2):
            with self.assertRaises(NoTable) as caught:
                function(facts, *rest)
            self.assertIs(type(caught.exception), NoTable)
            self.assertEqual((caught.exception.pair, caught.exception.numbers), (pair, numbers))

    def test_raised(self):
        for facts in self.FACTS:
            for function in (verdict, parted, joined):
                for one, other in ((0, 0), (0, 1), (("with", 0, 1), 2), (("with", 0, 1), ("with", 0, 1))):
                    self.check(function, facts, one, other)
            for function in (same, road):
                for one, other in ((0, 0), (0, 1), (("with", 0, 1), 2), (("with", 0, 1), ("with", 0, 1))):
                    self.check(function, facts, one, other)
            for value in ODD + ((0,), (0, ("with", 0, ("behind", 0, 0)), 0)):
                self.check(is_road, facts, 0, 0, value)
            for formula in (0, 1, ("with", 0, 1), ("behind", 0, ("with", 0, 1))):
                self.check(plain, facts, formula)
            for entry in ((0, 0, 0), (0, 1, 2), facts[1][0]):
                self.check(follows, facts, entry)
            self.check(spare, facts)
            self.check(world, facts)
            for size in (2 * facts[0], 60):
                self.check(world_of, facts, size)
            self.check(least_size, facts)
            for givens in ((), ((0, 1),), ((0, 1), (0, 2), (1, 2))):
                self.check(torn, facts, givens)
                for function in (verdict_given, reasons):
                    self.check(function, facts, givens, 0, ("with", 0, 1))
                for is_same in (True, False):
                    self.check(world_given, facts, givens, 0, ("with", 0, 1), is_same)

    def test_not_raised(self):
        for facts in self.FACTS:
            self.assertEqual(merged(facts), by_hand(facts[0], facts[1]))
            self.assertEqual(forcing(facts, 0, 0), ())
            self.assertIsNone(facts_error(facts))
            self.assertEqual(world_error(facts, None), (None, "world"))
            self.assertEqual(world_error(facts, (T, (0,))), (None, "things"))
            self.assertIs(alike(facts, facts), True)
            self.assertIs(alike(facts, (facts[0], (), ())), False)
            self.assertIs(alike((facts[0], (), ()), facts), False)
            self.assertIsNone(placed(facts, ((0, 1), (1, 0))))
            self.assertEqual(places(facts, ((0, 1), (1, 0))), 0)
            self.assertEqual(turned_facts(facts, (0, 1, 2)), facts)
            self.assertEqual(read_facts(facts_text(facts)), facts)


if __name__ == "__main__":
    unittest.main()
