import itertools
import random
import unittest

from solvedbothsides.bounds import MAX_GIVEN, MAX_LONG, MAX_NAMES, MAX_SHORT, MAX_TABLE
from solvedbothsides.errors import NoTable, TableError, TornGivens
from solvedbothsides.facts import clash
from solvedbothsides.formulas import formula_error
from solvedbothsides.givens import givens_error, reasons, torn, verdict_given, world_given
from solvedbothsides.worlds import verdict, world_error
from helper import (
    BIG, F, LONG_CHAINS, ODD, OTHER_BIG, by_hand, chain, is_world, many_facts, moved, paths, small_worlds,
    some_formula, told,
)

E = (2, (), ())
G = ((("with", 0, 1), ("with", 1, 0)), (("with", 0, 0), 0))
WITHOUT = (3, ((0, 0, 1), (0, 2, 1)), ((0, 2),))
# Eight names, three givens and two formulas, as great as they may be, of which nothing but what is given is one thing.
EIGHT = (8, (), ((0, 1), (0, 2), (0, 3), (0, 4), (0, 5), (0, 6)))
GREAT = (
    (("with", ("behind", 0, 1), 2), ("with", 3, ("ahead", 4, 5))),
    (("behind", ("with", 6, 7), 0), ("behind", 1, ("with", 2, 3))),
    (("ahead", ("ahead", 4, 6), 5), ("ahead", 7, ("behind", 6, 5))),
)


def drawn_by_hand(many, entries, formula):
    """Return how many things there are, all entries, and the thing that formula tells, with a thing for each part."""
    if isinstance(formula, int):
        return many, entries, formula
    many, entries, one = drawn_by_hand(many, entries, formula[1])
    many, entries, other = drawn_by_hand(many, entries, formula[2])
    found = {"with": (one, other, many), "behind": (one, many, other), "ahead": (many, one, other)}
    return many + 1, entries + (found[formula[0]],), many


def leads_by_hand(facts, pairs, one, other):
    """Return what must be one thing once all pairs tell the same, and what one and other tell."""
    many, entries = facts[0], facts[1]
    for pair in pairs:
        many, entries, first = drawn_by_hand(many, entries, pair[0])
        many, entries, second = drawn_by_hand(many, entries, pair[1])
        # Two things that give one thing, with one thing, are one.
        entries += ((first, many, many + 1), (second, many, many + 1))
        many += 2
    many, entries, first = drawn_by_hand(many, entries, one)
    many, entries, second = drawn_by_hand(many, entries, other)
    return by_hand(many, entries), first, second


def is_torn_by_hand(facts, pairs):
    leads, _, _ = leads_by_hand(facts, pairs, 0, 0)
    return any(leads[x] == leads[y] for x, y in facts[2])


def verdict_by_hand(facts, pairs, one, other):
    leads, first, second = leads_by_hand(facts, pairs, one, other)
    if leads[first] == leads[second]:
        return "always"
    return "never" if is_torn_by_hand(facts, (*pairs, (one, other))) else "open"


def least_by_hand(many, is_enough):
    """Return the least one of the shortest ascending tuples of numbers below many that are enough, of all there are."""
    for length in range(many + 1):
        for numbers in itertools.combinations(range(many), length):
            if is_enough(numbers):
                return numbers
    return None


def some_givens(rng, names, most=MAX_GIVEN):
    return tuple(
        tuple(some_formula(rng, names, rng.choice((1, 3, 3, 5))) for _ in range(2))
        for _ in range(rng.randint(0, most))
    )


def is_world_given(facts, givens, made):
    return is_world(facts, made) and all(told(*made, one) == told(*made, other) for one, other in givens)


class GivensError(unittest.TestCase):
    def test_examples(self):
        self.assertEqual(givens_error(2, (("with", 0),)), (0, "formula"))
        self.assertIsNone(givens_error(2, G))
        self.assertIsNone(givens_error(names=2, value=G))

    def test_right(self):
        for value in ((), ((0, 0),), ((0, 0), (0, 0), (0, 0)), ((chain(5), chain(5, "ahead", 1, 2)),), G):
            self.assertIsNone(givens_error(2, value))
        self.assertIsNone(givens_error(1, ((0, ("with", 0, 0)),)))
        self.assertIsNone(givens_error(MAX_NAMES, GREAT))

    def test_no_givens(self):
        for value in ODD + ([(0, 0)], "00", {0: (0, 0)}, ((0, 0),) * 4, ((0, 0),) * 5, (None,) * 4):
            if not (isinstance(value, tuple) and len(value) <= 3):
                self.assertEqual(givens_error(2, value), (None, "givens"), value)

    def test_no_pair(self):
        for item in (None, True, 0, "01", (), (0,), (0, 0, 0), ("with", 0, 0), [0, 0], {0: 0, 1: 0}, ((0, 0),)):
            self.assertEqual(givens_error(2, (item,)), (0, "pair"), item)
            self.assertEqual(givens_error(2, ((0, 0), item)), (1, "pair"))
            self.assertEqual(givens_error(2, ((0, 0), (1, 1), item)), (2, "pair"))

    def test_what_formula_error_tells(self):
        wrong = ODD + (
            -1, 2, 8, ("with", 0), ("with", 0, 2), ("with", 0, True), ("With", 0, 0), ["with", 0, 0], ("with", 0, [0]),
            ("with", ("behind", 0), 5), ("with", 5, ("behind", 0)), (["with"], 0, 0), chain(17), chain(15, "with", 2),
        )
        words = set()
        for value in wrong:
            word = formula_error(2, value)
            if word is not None:
                words.add(word)
                self.assertEqual(givens_error(2, ((value, 0),)), (0, word), value)
                self.assertEqual(givens_error(2, ((0, value),)), (0, word), value)
                self.assertEqual(givens_error(2, ((1, 1), (0, value))), (1, word), value)
        self.assertEqual(words, {"formula", "name", "word", "size"})

    def test_size(self):
        for size in range(1, 20, 2):
            right = (0, "size") if size > MAX_SHORT else None
            for formula in (chain(size), chain(size, "ahead", 1, 2)):
                self.assertEqual(givens_error(2, ((formula, 0),)), right)
                self.assertEqual(givens_error(2, ((1, formula),)), right)

    def test_names(self):
        for names in range(1, MAX_NAMES + 1):
            for name in range(10):
                right = None if name < names else (0, "name")
                self.assertEqual(givens_error(names, ((0, ("with", name, 0)),)), right)

    def test_the_first_fault_is_told(self):
        # The number first, then the first formula as a whole, with its size, ahead of the second one.
        self.assertEqual(givens_error(2, ((chain(7), ("with", 0)),)), (0, "size"))
        self.assertEqual(givens_error(2, ((("with", 0), chain(7)),)), (0, "formula"))
        self.assertEqual(givens_error(2, ((chain(7, "with", 2), ("with", 0)),)), (0, "name"))
        self.assertEqual(givens_error(2, ((5, ("x", 0, 0)),)), (0, "name"))
        self.assertEqual(givens_error(2, ((("x", 0, 5), 5),)), (0, "word"))
        self.assertEqual(givens_error(2, ((0, chain(7)), 0)), (0, "size"))
        self.assertEqual(givens_error(2, ((0, 0), 0, (chain(7), 0))), (1, "pair"))
        self.assertEqual(givens_error(2, (0, (None, 0))), (0, "pair"))
        self.assertEqual(givens_error(2, (0, 0, 0, 0)), (None, "givens"))


class Torn(unittest.TestCase):
    def test_examples(self):
        facts = (2, (), ((0, 1),))
        self.assertEqual(torn(facts, ((("with", 0, 0), ("with", 0, 1)),)), (0,))
        self.assertEqual(torn(facts=facts, givens=((("with", 0, 0), ("with", 0, 1)),)), (0,))
        self.assertIsNone(torn(E, G))

    def test_no_givens(self):
        for facts in many_facts(1, 30, only_with_world=True):
            self.assertIsNone(torn(facts, ()))

    def test_the_fewest_then_the_least(self):
        facts = (4, (), ((0, 3),))
        self.assertEqual(torn(facts, ((0, 1), (1, 2), (2, 3))), (0, 1, 2))
        self.assertEqual(torn(facts, ((0, 1), (1, 3), (0, 3))), (2,))
        self.assertEqual(torn(facts, ((0, 1), (1, 3), (1, 3))), (0, 1))
        self.assertEqual(torn(facts, ((1, 3), (2, 2), (0, 1))), (0, 2))
        self.assertEqual(torn(facts, ((3, 0), (0, 3), (3, 0))), (0,))
        self.assertIsNone(torn(facts, ((0, 1), (1, 2), (0, 2))))
        # What the entries say counts as well.
        self.assertEqual(torn((4, ((0, 0, 1), (3, 3, 2)), ((1, 2),)), ((1, 1), (0, 3))), (1,))

    def test_by_hand(self):
        lengths = {None: 0, 1: 0, 2: 0, 3: 0}
        for facts in many_facts(2, 500, greatest=5, only_with_world=True):
            rng = random.Random(str(facts))
            for _ in range(3):
                givens = some_givens(rng, facts[0])
                right = least_by_hand(
                    len(givens), lambda numbers: is_torn_by_hand(facts, [givens[number] for number in numbers]),
                )
                self.assertEqual(torn(facts, givens), right, (facts, givens))
                lengths[right and len(right)] += 1
        self.assertGreater(min(lengths[None], lengths[1]), 100, lengths)
        self.assertGreater(lengths[2], 10, lengths)

    def test_no_table_ahead(self):
        for facts in (WITHOUT, (8, LONG_CHAINS[0][0], ((0, 6),))):
            for givens in ((), ((0, 2),), ((0, 1), (0, 2), (1, 2))):
                calls = [lambda: torn(facts, givens), lambda: verdict_given(facts, givens, 0, 0)]
                calls += [lambda: reasons(facts, givens, 0, 0), lambda: world_given(facts, givens, 0, 0, True)]
                calls += [lambda: world_given(facts, givens, 0, 0, False)]
                for call in calls:
                    with self.assertRaises(NoTable) as caught:
                        call()
                    self.assertEqual((caught.exception.pair, caught.exception.numbers), clash(facts))

    def test_torn_givens_raised(self):
        facts = (4, (), ((0, 3),))
        for givens in (((0, 1), (1, 2), (2, 3)), ((0, 1), (1, 3), (0, 3)), ((0, 1), (1, 3))):
            calls = [lambda: verdict_given(facts, givens, 0, 0), lambda: reasons(facts, givens, 0, 1)]
            calls += [lambda: world_given(facts, givens, 0, 0, True), lambda: world_given(facts, givens, 0, 1, False)]
            for call in calls:
                with self.assertRaises(TornGivens) as caught:
                    call()
                self.assertIsInstance(caught.exception, TableError)
                self.assertEqual(caught.exception.numbers, torn(facts, givens))


class VerdictGiven(unittest.TestCase):
    def check(self, facts, givens, one, other):
        """Check that verdict_given, reasons and world_given go together, and return the verdict."""
        found = verdict_given(facts, givens, one, other)
        same = world_given(facts, givens, one, other, True)
        unlike = world_given(facts, givens, one, other, False)
        self.assertEqual(found == "never", same is None, (facts, givens, one, other))
        self.assertEqual(found == "always", unlike is None, (facts, givens, one, other))
        for made, is_same in ((same, True), (unlike, False)):
            if made is not None:
                self.assertTrue(is_world_given(facts, givens, made), (facts, givens, one, other))
                self.assertIsNone(world_error(facts, made))
                self.assertIs(told(*made, one) == told(*made, other), is_same)
        self.assertEqual(reasons(facts, givens, one, other) is None, found != "always")
        return found

    def test_examples(self):
        one = ("behind", 0, ("with", 1, 0))
        self.assertEqual(self.check(E, G, one, 1), "always")
        self.assertEqual(self.check(E, G, 0, 1), "open")
        self.assertIsNone(world_given(E, G, 0, ("behind", 0, 0), False))
        self.assertEqual(verdict_given(facts=E, givens=G, one=one, other=1), "always")
        self.assertEqual(reasons(facts=E, givens=G, one=one, other=1), (0,))
        self.assertEqual(reasons(E, G, ("ahead", 0, 0), 0), (1,))
        made = world_given(facts=E, givens=G, one=0, other=1, is_same=False)
        self.assertTrue(is_world_given(E, G, made))

    def test_no_givens_as_verdict(self):
        counts = {"always": 0, "never": 0, "open": 0}
        for facts in many_facts(3, 100, only_with_world=True):
            rng = random.Random(str(facts))
            for size in (1, 1, 3, 5, 13):
                one, other = some_formula(rng, facts[0], size), some_formula(rng, facts[0], rng.choice((1, 3)))
                found = self.check(facts, (), one, other)
                self.assertEqual(found, verdict(facts, one, other))
                self.assertEqual(reasons(facts, (), one, other), () if found == "always" else None)
                counts[found] += 1
        self.assertGreater(min(counts.values()), 20, counts)

    def test_each_word_by_a_given(self):
        facts = (4, (), ((0, 1),))
        for word in ("with", "behind", "ahead"):
            given = ((word, 0, 1), (word, 2, 3))
            self.assertEqual(self.check(facts, (given,), (word, 2, 3), (word, 0, 1)), "always")
            self.assertEqual(self.check(facts, (given,), (word, 3, 2), (word, 1, 0)), "open")
            # One of the two names, and the outcome, tell the other name.
            self.assertEqual(self.check(facts, (given, (0, 2)), 1, 3), "always")
            self.assertEqual(reasons(facts, (given, (0, 2)), 1, 3), (0, 1))
            self.assertEqual(self.check(facts, (given, (1, 3)), 0, 2), "always")
            self.assertEqual(self.check(facts, (given, (1, 3)), 1, 2), "never")
            self.assertEqual(self.check(facts, (((word, 0, 2), (word, 0, 3)),), 2, 3), "always")
            self.assertEqual(self.check(facts, (((word, 0, 2), (word, 1, 3)),), 2, 3), "never")

    def test_a_given_tells_of_its_own_names_alone(self):
        # That 0 with 1 is 1 with 0 tells nothing of 0 with 2.
        facts = (3, (), ())
        self.assertEqual(self.check(facts, G[:1], ("with", 0, 2), ("with", 2, 0)), "open")
        self.assertEqual(self.check(facts, G[:1], ("with", 1, 0), ("with", 0, 1)), "always")
        self.assertEqual(self.check(facts, (*G[:1], (1, 2)), ("with", 0, 2), ("with", 2, 0)), "always")

    def test_givens_that_say_nothing(self):
        idle = ((0, 0), (("with", 0, ("behind", 0, 1)), 1), (("ahead", 0, ("with", 1, 0)), 1))
        for facts in many_facts(4, 60, only_with_world=True):
            if facts[0] > 1:
                rng = random.Random(str(facts))
                one, other = some_formula(rng, facts[0], 3), some_formula(rng, facts[0], 3)
                self.assertIsNone(torn(facts, idle))
                found = self.check(facts, idle, one, other)
                self.assertEqual(found, verdict(facts, one, other))
                self.assertEqual(reasons(facts, idle, one, other), () if found == "always" else None)

    def test_by_hand(self):
        counts = {"always": 0, "never": 0, "open": 0}
        for facts in many_facts(5, 250, greatest=6, only_with_world=True):
            rng = random.Random(str(facts))
            for _ in range(3):
                givens = some_givens(rng, facts[0])
                if is_torn_by_hand(facts, givens):
                    self.assertRaises(TornGivens, verdict_given, facts, givens, 0, 0)
                    continue
                one = some_formula(rng, facts[0], rng.choice((1, 3, 5)))
                for other in (some_formula(rng, facts[0], rng.choice((1, 3))), self.by_a_given(rng, givens, one)):
                    right = verdict_by_hand(facts, givens, one, other)
                    self.assertEqual(self.check(facts, givens, one, other), right, (facts, givens, one, other))
                    counts[right] += 1
        self.assertGreater(min(counts.values()), 20, counts)

    def by_a_given(self, rng, givens, one):
        """Return a formula beside which a given stands, put together with one."""
        found = rng.choice(givens)[rng.randrange(2)] if givens else 0
        return rng.choice((found, (rng.choice(("with", "behind", "ahead")), found, found), one))

    def test_in_all_small_tables(self):
        counts = {"always": 0, "never": 0, "open": 0}
        for facts in many_facts(6, 80, greatest=3, only_with_world=True):
            rng = random.Random(str(facts))
            worlds = small_worlds(facts)
            for _ in range(5):
                givens = some_givens(rng, facts[0])
                used = [made for made in worlds if is_world_given(facts, givens, made)]
                if torn(facts, givens) is not None:
                    self.assertEqual(used, [])
                    continue
                one, other = (some_formula(rng, facts[0], rng.choice((1, 3, 5))) for _ in range(2))
                sames = [told(*made, one) == told(*made, other) for made in used]
                right = self.check(facts, givens, one, other)
                counts[right] += 1
                if right != "open":
                    self.assertNotIn(right == "never", sames, (facts, givens, one, other))
        self.assertGreater(min(counts.values()), 5, counts)

    def test_the_greatest_formulas(self):
        rng = random.Random(7)
        counts = {"always": 0, "never": 0, "open": 0}
        for facts in many_facts(7, 60, only_with_world=True):
            givens = tuple(tuple(some_formula(rng, facts[0], 5) for _ in range(2)) for _ in range(3))
            one = some_formula(rng, facts[0], MAX_LONG)
            made = one
            for _ in range(6):
                made = moved(rng, facts, made, MAX_LONG)
            if torn(facts, givens) is None:
                counts[self.check(facts, givens, one, some_formula(rng, facts[0], MAX_LONG))] += 1
                self.assertEqual(self.check(facts, givens, one, made), "always")
        self.assertGreater(counts["open"], 20, counts)


class Reasons(unittest.TestCase):
    def test_the_fewest_then_the_least(self):
        facts = (4, (), ())
        self.assertEqual(reasons(facts, ((0, 1), (1, 2), (2, 3)), 0, 3), (0, 1, 2))
        self.assertEqual(reasons(facts, ((0, 1), (1, 3), (0, 3)), 0, 3), (2,))
        self.assertEqual(reasons(facts, ((0, 1), (1, 3), (1, 3)), 0, 3), (0, 1))
        self.assertEqual(reasons(facts, ((1, 3), (2, 2), (0, 1)), 0, 3), (0, 2))
        self.assertEqual(reasons(facts, ((0, 1), (1, 0)), ("with", 0, 0), ("with", 1, 0)), (0,))
        self.assertEqual(reasons(facts, ((0, 1), (1, 2)), 0, 0), ())
        self.assertIsNone(reasons(facts, ((0, 1), (1, 2)), 0, 3))
        # A "never" has no reasons.
        self.assertIsNone(reasons((4, (), ((0, 3),)), ((0, 1),), 1, 3))

    def test_by_the_facts_alone(self):
        self.assertEqual(reasons(F, ((1, 3),), 1, 3), ())
        self.assertEqual(reasons(F, ((("with", 0, 1), 2),), ("with", 0, 3), 2), ())
        self.assertEqual(reasons(F, ((("with", 0, 0), 3),), ("with", 0, 0), 1), (0,))

    def test_by_hand(self):
        lengths = {None: 0, 0: 0, 1: 0, 2: 0, 3: 0}
        for facts in many_facts(8, 300, greatest=5, only_with_world=True):
            rng = random.Random(str(facts))
            for _ in range(4):
                givens = some_givens(rng, facts[0])
                if torn(facts, givens) is None:
                    one, other = (some_formula(rng, facts[0], rng.choice((1, 3))) for _ in range(2))
                    right = least_by_hand(len(givens), lambda numbers: "always" == verdict_by_hand(
                        facts, [givens[number] for number in numbers], one, other,
                    ))
                    self.assertEqual(reasons(facts, givens, one, other), right, (facts, givens, one, other))
                    lengths[right if right is None else len(right)] += 1
        self.assertGreater(min(lengths[n] for n in (None, 0, 1, 2)), 5, lengths)


class Greatest(unittest.TestCase):
    one = ("with", ("behind", ("with", 0, 0), ("ahead", 1, 1)), ("ahead", ("with", 2, 2), 3))
    other = ("behind", ("ahead", ("behind", 5, 5), ("ahead", 6, 6)), ("with", ("behind", 7, 0), 4))

    def test_what_they_are(self):
        self.assertIsNone(givens_error(8, GREAT))
        self.assertTrue(all(len(paths(formula)) == MAX_SHORT for given in GREAT for formula in given))
        for formula in (self.one, self.other):
            self.assertEqual(len(paths(formula)), MAX_LONG)
            self.assertIsNone(formula_error(8, formula))

    def test_tables_are_no_greater_than_they_may_be(self):
        leads, _, _ = leads_by_hand(EIGHT, GREAT, self.one, self.other)
        # Two things more for each given are by_hand's own.
        self.assertEqual(len(set(leads)) - 2 * len(GREAT), 29)
        for is_same in (True, False):
            for _ in range(3):
                made = world_given(EIGHT, GREAT, self.one, self.other, is_same)
                self.assertTrue(is_world_given(EIGHT, GREAT, made))
                self.assertIsNone(world_error(EIGHT, made))
                self.assertLessEqual(len(made[0]), MAX_TABLE)
                self.assertIs(told(*made, self.one) == told(*made, self.other), is_same)

    def test_many_times(self):
        full = (8, LONG_CHAINS[2][0], ((4, 7),))
        for _ in range(20):
            self.assertEqual(verdict_given(EIGHT, GREAT, self.one, self.other), "open")
            self.assertIsNone(reasons(EIGHT, GREAT, self.one, self.other))
            self.assertIsNone(torn(EIGHT, GREAT))
            self.assertEqual(torn(full, ((6, 7), (4, 6), (4, 7))), (0,))

    def test_somewhat_beyond(self):
        # Greater formulas and more givens raise no error.
        for one, other in ((BIG, OTHER_BIG), (chain(21), chain(23, "ahead", 7)), (BIG, BIG)):
            right = verdict_by_hand(EIGHT, GREAT, one, other)
            self.assertEqual(verdict_given(EIGHT, GREAT, one, other), right)
            self.assertEqual(reasons(EIGHT, GREAT, one, other), () if right == "always" else None)
            for is_same in (True, False):
                world_given(EIGHT, GREAT, one, other, is_same)
        more = ((0, 1), (1, 2), (2, 3), (("with", 0, 3), 4))
        self.assertEqual(reasons((5, (), ()), more, ("with", 0, 0), 4), (0, 1, 2, 3))
        self.assertIsNone(torn((5, (), ()), more))


if __name__ == "__main__":
    unittest.main()
