import copy
import unittest

from solvedbothsides.bounds import MAX_NAMES, MAX_SIZE
from solvedbothsides.errors import BadSize, Full
from solvedbothsides.formulas import formula_error, size
from helper import BIG, WORDS, chain, formulas, paths, replaced

# What is wrong in the place of a part, whatever stands around it, with the word for it.
WRONG = [
    (True, "formula"), (False, "formula"), (None, "formula"), ("", "formula"), ("0", "formula"), ("with", "formula"),
    ([], "formula"), ([0], "formula"), (["with", 0, 0], "formula"), ({}, "formula"), ({0: 0}, "formula"),
    ((), "formula"), ((0,), "formula"), (("with", 0), "formula"), (("with", 0, 0, 0), "formula"),
    ((("with", 0, 0),), "formula"), (Full(), "formula"), (BadSize(0), "formula"),
    (-1, "name"), (-10 ** 59, "name"), (MAX_NAMES, "name"), (10 ** 59, "name"),
    ((0, 0, 0), "word"), (("With", 0, 0), "word"), (("with ", 0, 0), "word"), (("", 0, 0), "word"),
    (("wit", 0, 0), "word"), (("gives", 0, 0), "word"), ((None, 0, 0), "word"), ((True, 0, 0), "word"),
    ((["with"], 0, 0), "word"), ((("with",), 0, 0), "word"), (({}, 0, 0), "word"), ((0, "with", 0), "word"),
    ((BadSize(0), 0, 0), "word"),
]


class Size(unittest.TestCase):
    def test_names(self):
        for name in range(MAX_NAMES):
            self.assertEqual(size(name), 1)
        self.assertEqual(size(10 ** 59), 1)

    def test_examples(self):
        self.assertEqual(size(("with", 0, ("behind", 0, 1))), 5)
        self.assertEqual(size(BIG), 15)

    def test_all_small_formulas(self):
        for many in (1, 3, 5):
            for formula in formulas(2, many):
                self.assertEqual(size(formula), many)

    def test_far_beyond_the_bound(self):
        for place in (1, 2):
            self.assertEqual(size(chain(17, place=place)), 17)
            self.assertEqual(size(chain(4001, place=place)), 4001)

    def test_by_name(self):
        self.assertEqual(size(formula=("ahead", 0, 0)), 3)


class Formulas(unittest.TestCase):
    def test_formulas(self):
        for many in (1, 3, 5):
            for formula in formulas(2, many):
                self.assertIsNone(formula_error(2, formula))

    def test_each_word(self):
        for word in WORDS:
            self.assertIsNone(formula_error(1, (word, 0, 0)))

    def test_names_below_names(self):
        for names in range(1, MAX_NAMES + 1):
            for name in range(-2, MAX_NAMES + 2):
                right = None if 0 <= name < names else "name"
                for value in (name, ("with", name, 0), ("behind", 0, name), ("ahead", 0, ("with", 0, name))):
                    with self.subTest(names=names, value=value):
                        self.assertEqual(formula_error(names, value), right)

    def test_examples(self):
        self.assertEqual(formula_error(2, ("with", 0, 2)), "name")
        self.assertEqual(formula_error(2, ("with", 0)), "formula")

    def test_size(self):
        for word in WORDS:
            for place in (1, 2):
                with self.subTest(word, place=place):
                    self.assertIsNone(formula_error(1, chain(MAX_SIZE - 2, word, 0, place)))
                    self.assertIsNone(formula_error(1, chain(MAX_SIZE, word, 0, place)))
                    self.assertEqual(formula_error(1, chain(MAX_SIZE + 2, word, 0, place)), "size")
                    self.assertEqual(formula_error(1, chain(4001, word, 0, place)), "size")
        self.assertIsNone(formula_error(8, BIG))
        self.assertEqual(formula_error(8, ("with", 0, BIG)), "size")
        self.assertEqual(formula_error(8, ("with", BIG, BIG)), "size")

    def test_by_name(self):
        self.assertEqual(formula_error(names=2, value=2), "name")
        self.assertIsNone(formula_error(value=1, names=2))


class WrongParts(unittest.TestCase):
    def test_each_wrong_part_at_each_place(self):
        for path in paths(BIG):
            for part, word in WRONG:
                with self.subTest(path=path, part=part):
                    self.assertEqual(formula_error(8, replaced(BIG, path, part)), word)

    def test_each_wrong_part_at_each_depth(self):
        for place in (1, 2):
            for depth in range(8):
                for part, word in WRONG:
                    value = replaced(chain(15, place=place), (place,) * depth, part)
                    with self.subTest(place=place, depth=depth, part=part):
                        self.assertEqual(formula_error(8, value), word)

    def test_wrong_word_at_each_part(self):
        for path in paths(BIG):
            if len(path) < 3:
                with self.subTest(path=path):
                    self.assertEqual(formula_error(8, replaced(BIG, path + (0,), "unlike")), "word")

    def test_one_wrong_part_in_a_formula_that_is_too_great(self):
        great = ("with", BIG, BIG)
        for path in paths(great):
            for part, word in WRONG:
                with self.subTest(path=path, part=part):
                    self.assertEqual(formula_error(8, replaced(great, path, part)), word)

    def test_two_wrong_parts(self):
        told = (("x", "formula"), (8, "name"), ((None, 0, 0), "word"))
        ordered = paths(BIG)
        for at, path in enumerate(ordered):
            for later in ordered[at + 1:]:
                if later[:len(path)] != path:
                    for one, word in told:
                        for other, _ in told:
                            with self.subTest(path=path, later=later, one=one, other=other):
                                value = replaced(replaced(BIG, path, one), later, other)
                                self.assertEqual(formula_error(8, value), word)

    def test_a_part_ahead_of_the_parts_in_it(self):
        for path in paths(BIG):
            for inner in paths(BIG):
                if len(path) < len(inner) and inner[:len(path)] == path:
                    for part in ("x", 8):
                        with self.subTest(path=path, inner=inner, part=part):
                            value = replaced(replaced(BIG, inner, part), path + (0,), "x")
                            self.assertEqual(formula_error(8, value), "word")

    def test_what_is_no_triple_is_told_whatever_is_in_it(self):
        self.assertEqual(formula_error(2, ("x", 5)), "formula")
        self.assertEqual(formula_error(2, [None, 5, 5]), "formula")
        self.assertEqual(formula_error(2, (None, 5, True, 5)), "formula")

    def test_the_first_formula_with_all_in_it_ahead_of_the_second(self):
        self.assertEqual(formula_error(2, ("with", ("with", 0, 2), ("x", 0, 0))), "name")
        self.assertEqual(formula_error(2, ("with", ("with", 0, ("with", 0, [0])), 2)), "formula")
        self.assertEqual(formula_error(2, ("with", ("x", 0, 0), True)), "word")

    def test_truths_are_no_names(self):
        for truth in (True, False):
            for value in (truth, ("with", truth, 0), ("behind", 0, truth), ("ahead", ("with", 0, truth), 0)):
                self.assertEqual(formula_error(2, value), "formula")

    def test_great_values(self):
        self.assertEqual(formula_error(2, [0] * 5000), "formula")
        self.assertEqual(formula_error(2, (0,) * 5000), "formula")
        self.assertEqual(formula_error(2, ("x" * 2000, 0, 0)), "word")
        self.assertEqual(formula_error(2, "with 0 1"), "formula")


class ValuesStay(unittest.TestCase):
    def test_value_stays(self):
        values = [
            ["with", 0, [1, {"a": [True]}]],
            {"with": [0, 1]},
            ("with", [0, [1]], {0: [False]}),
            ([{"with": 0}], 0, [1]),
            ("behind", 0, ("ahead", [2, 1], 3)),
            BIG,
        ]
        ahead = copy.deepcopy(values)
        for value in values:
            formula_error(2, value)
        self.assertEqual(repr(values), repr(ahead))

    def test_equal_calls_tell_the_same(self):
        value = ("with", ("behind", [0], 9), 9)
        self.assertEqual([formula_error(2, value) for _ in range(3)], ["formula"] * 3)


if __name__ == "__main__":
    unittest.main()
