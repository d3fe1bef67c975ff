import itertools
import unittest

from solvedbothsides.bounds import MAX_NAMES
from solvedbothsides.errors import NotOnce, TableError, Taken
from solvedbothsides.formulas import formula_error, size, solved
from helper import TABLES, WORDS, chain, formulas, item, names_in, paths, replaced, told


class Solved(unittest.TestCase):
    def test_example(self):
        self.assertEqual(solved(("with", ("behind", 0, 1), 2), 1, 3), ("with", 0, ("ahead", 2, 3)))

    def test_the_name_itself(self):
        self.assertEqual(solved(0, 0, 1), 1)
        self.assertEqual(solved(7, 7, 0), 0)

    def test_either_side_of_each_word(self):
        self.assertEqual(solved(("with", 0, 1), 0, 2), ("ahead", 1, 2))
        self.assertEqual(solved(("with", 0, 1), 1, 2), ("behind", 0, 2))
        self.assertEqual(solved(("behind", 0, 1), 0, 2), ("ahead", 2, 1))
        self.assertEqual(solved(("behind", 0, 1), 1, 2), ("with", 0, 2))
        self.assertEqual(solved(("ahead", 0, 1), 0, 2), ("behind", 2, 1))
        self.assertEqual(solved(("ahead", 0, 1), 1, 2), ("with", 2, 0))

    def test_several_depths(self):
        deep = ("ahead", ("behind", ("with", 0, 1), ("ahead", 2, 3)), ("with", 4, ("behind", 5, 6)))
        self.assertEqual(
            solved(deep, 0, 7),
            ("ahead", 1, ("ahead", ("behind", 7, ("with", 4, ("behind", 5, 6))), ("ahead", 2, 3))),
        )
        self.assertEqual(
            solved(deep, 3, 7),
            ("with", ("with", ("with", 0, 1), ("behind", 7, ("with", 4, ("behind", 5, 6)))), 2),
        )
        self.assertEqual(
            solved(deep, 5, 7),
            ("ahead", ("behind", 4, ("with", 7, ("behind", ("with", 0, 1), ("ahead", 2, 3)))), 6),
        )

    def test_names_that_stand_more_often_are_carried_along(self):
        self.assertEqual(solved(("with", ("with", 0, 0), 1), 1, 2), ("behind", ("with", 0, 0), 2))
        self.assertEqual(solved(("ahead", ("behind", 0, 1), 0), 1, 7), ("with", 0, ("behind", 7, 0)))

    def test_each_step_at_depth_seven(self):
        for word, place in itertools.product(WORDS, (1, 2)):
            formula = replaced(chain(15, word, 0, place), (place,) * 7, 1)
            made = solved(formula, 1, 2)
            with self.subTest(word, place=place):
                self.assertEqual(size(made), 15)
                self.assertEqual(sorted(names_in(made)), [0] * 7 + [2])
                self.assertEqual(solved(made, 2, 1), formula)

    def test_beyond_the_bounds(self):
        formula = replaced(chain(41, "behind", 8, 2), (2,) * 20, 9)
        self.assertEqual(solved(formula, 9, 10), replaced(chain(41, "with", 8, 2), (2,) * 20, 10))

    def test_by_name(self):
        self.assertEqual(solved(formula=("with", 0, 1), name=0, out=2), ("ahead", 1, 2))
        self.assertEqual(solved(out=2, name=1, formula=("with", 0, 1)), ("behind", 0, 2))


class ForAllSmallFormulas(unittest.TestCase):
    def each(self, many):
        """Give all formulas of this size with a name that stands once in it; 3 stands in none."""
        for formula in formulas(3, many):
            for name in range(3):
                if names_in(formula).count(name) == 1:
                    yield formula, name

    def test_same_size_and_names(self):
        for many in (1, 3, 5):
            for formula, name in self.each(many):
                made = solved(formula, name, 3)
                self.assertEqual(size(made), many)
                self.assertIsNone(formula_error(4, made))
                changed = [3 if part == name else part for part in names_in(formula)]
                self.assertEqual(sorted(names_in(made)), sorted(changed))

    def test_solved_back(self):
        for many in (1, 3, 5):
            for formula, name in self.each(many):
                self.assertEqual(solved(solved(formula, name, 3), 3, name), formula)

    def test_tells_the_name_just_where_the_formula_tells_out(self):
        for table in TABLES:
            tuples = list(itertools.product(range(len(table)), repeat=4))
            for many in (1, 3) if len(table) > 3 else (1, 3, 5):
                for formula, name in self.each(many):
                    made = solved(formula, name, 3)
                    for things in tuples:
                        one = told(table, things, formula) == things[3]
                        self.assertEqual(told(table, things, made) == things[name], one)

    def test_every_side_at_several_depths_in_a_table_of_five(self):
        table = TABLES[-1]
        for first, second, third in itertools.product(WORDS, repeat=3):
            formula = (first, (second, 0, (third, 1, 2)), (third, 4, (second, 5, 6)))
            for path in paths(formula):
                name = item(formula, path)
                if isinstance(name, int):
                    made = solved(formula, name, 3)
                    for seed in range(30):
                        things = [(seed * (k + 1) + k * k) % 5 for k in range(7)]
                        things[3] = told(table, things, formula)
                        self.assertEqual(told(table, things, made), things[name])


class Refused(unittest.TestCase):
    def check(self, error, formula, name, out):
        with self.assertRaises(error) as caught:
            solved(formula, name, out)
        self.assertIs(type(caught.exception), error)
        self.assertIsInstance(caught.exception, TableError)
        self.assertEqual(caught.exception.name, name if error is NotOnce else out)

    def test_no_place(self):
        self.check(NotOnce, 0, 1, 2)
        self.check(NotOnce, ("with", 0, 1), 2, 3)
        self.check(NotOnce, ("with", 0, ("ahead", 1, 2)), 7, 3)

    def test_more_places(self):
        self.check(NotOnce, ("with", 0, 0), 0, 1)
        self.check(NotOnce, ("with", 1, ("behind", 0, ("ahead", 2, 1))), 1, 3)
        self.check(NotOnce, ("with", ("behind", 0, 1), ("behind", 0, 1)), 0, 3)
        self.check(NotOnce, chain(15), 0, 1)

    def test_taken(self):
        self.check(Taken, ("with", 0, 1), 0, 1)
        self.check(Taken, ("with", 0, 1), 1, 0)
        self.check(Taken, ("with", 2, ("behind", ("ahead", 1, 1), 0)), 0, 1)
        self.check(Taken, ("with", 2, ("behind", ("ahead", 1, 1), 0)), 0, 2)

    def test_taken_by_the_name_itself(self):
        for name in range(MAX_NAMES):
            self.check(Taken, name, name, name)
        self.check(Taken, ("ahead", 0, 1), 1, 1)

    def test_not_once_ahead_of_taken(self):
        self.check(NotOnce, ("with", 0, 1), 2, 0)
        self.check(NotOnce, ("with", ("with", 0, 0), 1), 0, 1)
        self.check(NotOnce, ("with", 0, 0), 0, 0)
        self.check(NotOnce, 0, 1, 0)
        self.check(NotOnce, ("behind", ("with", 2, 1), ("with", 1, 2)), 1, 2)
        self.check(NotOnce, ("with", 0, 1), 2, 2)


if __name__ == "__main__":
    unittest.main()
