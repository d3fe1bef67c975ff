import itertools
import random
import unittest

from solvedbothsides.errors import NoTable, TableError, UnlikeNames
from solvedbothsides.facts import clash
from solvedbothsides.follow import alike, follows, spare
from solvedbothsides.worlds import joined, parted, verdict
from helper import F, LONG_CHAINS, by_hand, is_world, many_facts, small_worlds

WITHOUT = (3, ((0, 0, 1), (0, 2, 1)), ((0, 2),))


def always_holds(facts, entry):
    """Return whether an entry holds in every world, by a thing more that the first two names of it give."""
    names, entries, _ = facts
    x, y, z = entry
    leads = by_hand(names + 1, entries + ((x, y, names),))
    return leads[names] == leads[z]


def always_unlike(facts, pair):
    """Return whether two names are unlike things in every world, by entries more that make them one thing."""
    names, entries, unlike = facts
    one, other = pair
    leads = by_hand(names + 2, entries + ((one, names, names + 1), (other, names, names + 1)))
    return any(leads[x] == leads[y] for x, y in unlike)


def alike_by_hand(one, other):
    found = True
    for facts, others in ((one, other), (other, one)):
        found = found and all(always_holds(facts, entry) for entry in others[1])
        found = found and all(always_unlike(facts, pair) for pair in others[2])
    return found


class Follows(unittest.TestCase):
    def test_examples(self):
        self.assertEqual(follows(F, (0, 2, 2)), "open")
        self.assertEqual(follows(F, (0, 1, 2)), "always")
        self.assertEqual(follows(F, (0, 0, 2)), "never")
        self.assertEqual(follows(facts=F, entry=(0, 3, 2)), "always")

    def test_what_verdict_tells(self):
        for facts in many_facts(1, 80, greatest=4, only_with_world=True):
            for entry in itertools.product(range(facts[0]), repeat=3):
                found = follows(facts, entry)
                self.assertEqual(found, verdict(facts, ("with", entry[0], entry[1]), entry[2]))
                self.assertEqual(found == "always", always_holds(facts, entry))

    def test_in_small_tables(self):
        for facts in many_facts(2, 30, greatest=3, only_with_world=True):
            worlds = small_worlds(facts)
            for x, y, z in itertools.product(range(facts[0]), repeat=3):
                holding = [table[things[x]][things[y]] == things[z] for table, things in worlds]
                found = follows(facts, (x, y, z))
                self.assertFalse(found == "always" and False in holding)
                self.assertFalse(found == "never" and True in holding)

    def test_the_greatest_many_times(self):
        facts = (8, LONG_CHAINS[2][0], ((0, 7), (1, 7), (2, 7), (3, 7), (4, 7), (5, 7)))
        for _ in range(10):
            for entry in itertools.product((0, 3, 6, 7), repeat=3):
                right = "open" if entry == (7, 7, 0) or entry == (7, 7, 7) else None
                found = follows(facts, entry)
                if right is not None:
                    self.assertEqual(found, right)
                elif 7 not in entry:
                    self.assertEqual(found, "always")
                elif entry.count(7) == 1:
                    self.assertEqual(found, "never")

    def test_without_world(self):
        with self.assertRaises(NoTable) as caught:
            follows(WITHOUT, (0, 0, 1))
        self.assertEqual((caught.exception.pair, caught.exception.numbers), (0, (0, 1)))


class Spare(unittest.TestCase):
    def test_examples(self):
        self.assertEqual(spare(F), ())
        self.assertEqual(spare((2, ((0, 0, 0), (0, 1, 1)), ())), ())
        self.assertEqual(spare(facts=F), ())

    def test_each_alone(self):
        # Names 1 and 2 are one thing, so that the third entry says what the fourth one says.
        self.assertEqual(spare((4, ((0, 0, 1), (0, 0, 2), (1, 1, 3), (2, 2, 3)), ())), (2, 3))
        # By the third and fourth entry alone 1 and 2 are one thing as well.
        self.assertEqual(spare((4, ((0, 0, 1), (0, 0, 2), (1, 1, 3), (1, 2, 3)), ())), (0, 1, 2, 3))
        self.assertEqual(spare((4, ((0, 0, 1), (1, 1, 3), (1, 2, 3)), ())), ())

    def test_no_entries(self):
        self.assertEqual(spare((8, (), ((0, 1),))), ())

    def test_by_leaving_out(self):
        some, none = 0, 0
        for facts in many_facts(3, 400, only_with_world=True):
            names, entries, unlike = facts
            right = tuple(
                number for number, entry in enumerate(entries)
                if always_holds((names, entries[:number] + entries[number + 1:], unlike), entry)
            )
            self.assertEqual(spare(facts), right, facts)
            some, none = some + (right != ()), none + (right == ())
        self.assertGreater(min(some, none), 40)

    def test_the_worlds_stay_the_same(self):
        for facts in many_facts(4, 60, greatest=3, only_with_world=True):
            names, entries, unlike = facts
            found = spare(facts)
            for number, (x, y, z) in enumerate(entries):
                others = (names, entries[:number] + entries[number + 1:], unlike)
                if number in found:
                    self.assertEqual(small_worlds(others), small_worlds(facts))
                else:
                    made = parted(others, ("with", x, y), z)
                    self.assertTrue(is_world(others, made))
                    self.assertFalse(is_world(facts, made))

    def test_the_greatest_many_times(self):
        for entries, _ in LONG_CHAINS:
            facts = (8, entries, ())
            right = tuple(n for n in range(10) if always_holds((8, entries[:n] + entries[n + 1:], ()), entries[n]))
            for _ in range(20):
                self.assertEqual(spare(facts), right)

    def test_without_world(self):
        for facts in (WITHOUT, (8, LONG_CHAINS[0][0], ((0, 6),))):
            with self.assertRaises(NoTable) as caught:
                spare(facts)
            self.assertEqual((caught.exception.pair, caught.exception.numbers), clash(facts))


class Alike(unittest.TestCase):
    def check(self, one, other, right):
        self.assertIs(alike(one, other), right, (one, other))
        self.assertIs(alike(other, one), right, (one, other))

    def test_examples(self):
        self.check(F, F, True)
        self.assertIs(alike(one=F, other=F), True)

    def test_an_entry_that_follows(self):
        one = (4, ((0, 0, 1), (0, 0, 2), (1, 1, 3)), ())
        self.check(one, (4, ((0, 0, 1), (0, 0, 2), (1, 1, 3), (1, 2, 3)), ()), True)
        self.check(one, (4, ((0, 0, 1), (0, 0, 2), (2, 2, 3)), ()), True)
        self.check(one, (4, ((0, 0, 1), (0, 0, 2), (1, 1, 3), (1, 3, 3)), ()), False)
        self.check(one, (4, ((0, 0, 1), (1, 1, 3)), ()), False)
        self.check(one, (4, ((0, 0, 1), (0, 0, 2)), ()), False)
        self.check((2, (), ()), (2, ((0, 0, 0),), ()), False)

    def test_a_pair_that_follows(self):
        # 1 and 2 are unlike things, as 0 with 1 and 0 with 2 are.
        one = (5, ((0, 1, 3), (0, 2, 4)), ((3, 4),))
        self.check(one, (5, ((0, 1, 3), (0, 2, 4)), ((1, 2),)), True)
        self.check(one, (5, ((0, 1, 3), (0, 2, 4)), ((1, 2), (3, 4))), True)
        self.check(one, (5, ((0, 1, 3), (0, 2, 4)), ((0, 1), (3, 4))), False)
        self.check(one, (5, ((0, 1, 3), (0, 2, 4)), ()), False)
        self.check((5, ((0, 1, 3), (1, 2, 4)), ((3, 4),)), (5, ((0, 1, 3), (1, 2, 4)), ((1, 2),)), False)
        self.check((2, (), ((0, 1),)), (2, (), ()), False)

    def test_a_pair_of_names_that_are_the_same(self):
        entries = ((0, 0, 1), (0, 0, 2))
        self.check((4, entries, ((1, 3),)), (4, entries, ((2, 3),)), True)
        self.check((4, entries, ((1, 3),)), (4, entries, ((0, 3),)), False)

    def test_without_world(self):
        other = (3, ((1, 1, 0), (1, 1, 2)), ((0, 2),))
        self.check(WITHOUT, other, True)
        self.check(WITHOUT, WITHOUT, True)
        for with_world in ((3, (), ()), (3, WITHOUT[1], ()), (3, WITHOUT[1][:1], WITHOUT[2])):
            self.check(WITHOUT, with_world, False)

    def test_unlike_numbers_of_names(self):
        for one, other in (
            (F, (3, *F[1:])), (F, WITHOUT), (WITHOUT, F), ((1, (), ()), (8, (), ())), ((2, (), ()), (3, (), ())),
            (WITHOUT, (4, *WITHOUT[1:])),
        ):
            for _ in range(2):
                with self.assertRaises(UnlikeNames) as caught:
                    alike(one, other)
                self.assertIsInstance(caught.exception, TableError)
                self.assertEqual((caught.exception.one, caught.exception.other), (one[0], other[0]))

    def variants(self, rng, facts):
        """Return facts that have the worlds of these, or nearly so."""
        names, entries, unlike = facts
        found = [facts]
        triples = list(itertools.product(range(names), repeat=3))
        pairs = list(itertools.combinations(range(names), 2))
        holding = [entry for entry in triples if always_holds(facts, entry)]
        apart = [pair for pair in pairs if always_unlike(facts, pair)]
        for _ in range(3):
            more = set(entries) | set(rng.sample(holding, min(len(holding), 2)))
            more_unlike = set(unlike) | set(rng.sample(apart, min(len(apart), 1)))
            found.append((names, tuple(sorted(more)), tuple(sorted(more_unlike))))
            found.append((names, tuple(sorted(set(entries) | {rng.choice(triples)})), unlike))
            if pairs:
                found.append((names, entries, tuple(sorted(set(unlike) | {rng.choice(pairs)}))))
        for number in range(len(entries)):
            found.append((names, entries[:number] + entries[number + 1:], unlike))
        for number in range(len(unlike)):
            found.append((names, entries, unlike[:number] + unlike[number + 1:]))
        return [others for others in found if len(others[1]) <= 10 and len(others[2]) <= 6]

    def test_by_hand(self):
        counts = [0, 0]
        for facts in many_facts(5, 80, only_with_world=True):
            rng = random.Random(str(facts))
            for others in self.variants(rng, facts):
                right = clash(others) is None and alike_by_hand(facts, others)
                counts[right] += 1
                self.check(facts, others, right)
        self.assertGreater(min(counts), 150, counts)

    def test_in_small_tables(self):
        for facts in many_facts(6, 40, greatest=3, only_with_world=True):
            rng = random.Random(str(facts))
            worlds = small_worlds(facts)
            for others in self.variants(rng, facts):
                if alike(facts, others):
                    self.assertEqual(small_worlds(others), worlds)

    def test_a_world_of_one_alone_if_not_alike(self):
        for facts in many_facts(7, 30, only_with_world=True):
            rng = random.Random(str(facts))
            for others in self.variants(rng, facts):
                if not alike(facts, others) and clash(others) is None:
                    made = []
                    for one, other in ((facts, others), (others, facts)):
                        made += [(one, other, parted(one, ("with", x, y), z)) for x, y, z in other[1]]
                        made += [(one, other, joined(one, x, y)) for x, y in other[2]]
                    found = [found for found in made if found[2] is not None]
                    self.assertTrue(any(is_world(one, w) and not is_world(other, w) for one, other, w in found))

    def test_the_greatest_many_times(self):
        six = ((0, 7), (1, 7), (2, 7), (3, 7), (4, 7), (5, 7))
        entries = LONG_CHAINS[2][0]
        for _ in range(5):
            self.check((8, entries, six), (8, entries, six), True)
            self.check((8, entries, six), (8, entries, ((6, 7),)), True)
            self.check((8, entries, six), (8, entries, ()), False)
            self.check((8, entries, six), (8, entries[1:], six), False)


if __name__ == "__main__":
    unittest.main()
