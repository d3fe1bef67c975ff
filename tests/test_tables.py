import copy
import itertools
import random
import unittest

from solvedbothsides.bounds import MAX_TABLE, MAX_TRIES
from solvedbothsides.errors import TooMany
from solvedbothsides.formulas import solved
from solvedbothsides.tables import ahead, behind, holds, kinds, outcome, table_error, value
from helper import (
    BIG, ODD, SMALL_TABLES, T, TABLES, chain, exact, formulas, latin, lined, names_in, shuffled,
    some_formula, told,
)


def with_cell(table, x, y, cell):
    """Return the table with this cell at place y of row x."""
    return table[:x] + (table[x][:y] + (cell,) + table[x][y + 1:],) + table[x + 1:]


class TableError(unittest.TestCase):
    def test_tables(self):
        for table in SMALL_TABLES + TABLES:
            self.assertIsNone(table_error(table))
        for size in range(1, MAX_TABLE + 1):
            self.assertIsNone(table_error(lined(size, 1, 1, 0)))
        self.assertIsNone(table_error(value=T))

    def test_size(self):
        self.assertEqual(table_error(()), (None, "table"))
        self.assertEqual(table_error(lined(MAX_TABLE + 1, 1, 1, 0)), (None, "table"))
        self.assertEqual(table_error((None,) * (MAX_TABLE + 1)), (None, "table"))

    def test_no_table(self):
        for wrong in ODD + (list(T), [list(row) for row in T], {0: (0,)}, "0", "012"):
            if not isinstance(wrong, tuple) or wrong == ():
                self.assertEqual(table_error(wrong), (None, "table"))

    def test_wrong_row(self):
        wrong = ODD + ((0, 2), (0, 2, 1, 3), [0, 2, 1], (0, 2, 2), (0, 2, 3), (-1, 2, 1), "021", (0, 2, True),
                       (False, 2, 1), (0, 2, None), (0, 2, "1"), (0, 2, (1,)), (0, 2, [1]))
        for row in wrong:
            for number in range(3):
                table = T[:number] + (row,) + T[number + 1:]
                with self.subTest(table):
                    self.assertEqual(table_error(table), (number, "row"))
                    # A later row that is wrong and columns that are wrong come behind it.
                    later = table[:number + 1] + (None,) * (2 - number)
                    self.assertEqual(table_error(later), (number, "row"))

    def test_wrong_cell(self):
        for size in (1, 2, 5, 60):
            table = lined(size, 1, 1, 0)
            for x, y in {(0, 0), (0, size - 1), (size - 1, 0), (size - 1, size - 1), (size // 2, size // 3)}:
                for cell in (True, False, None, size, -1, "0", [], (), 10 ** 59):
                    self.assertEqual(table_error(with_cell(table, x, y, cell)), (x, "row"))

    def test_wrong_column(self):
        self.assertEqual(table_error(((0, 1), (0, 1))), (0, "column"))
        self.assertEqual(table_error(((0, 1, 2), (0, 2, 1), (1, 0, 2))), (0, "column"))
        self.assertEqual(table_error(((0, 1, 2), (1, 2, 0), (1, 0, 2))), (0, "column"))
        self.assertEqual(table_error(((0, 1, 2, 3), (1, 0, 3, 2), (2, 3, 0, 1), (3, 2, 0, 1))), (2, "column"))
        great = lined(60, 1, 1, 0)
        last = great[59][:57] + (great[59][58], great[59][57], great[59][59])
        self.assertEqual(table_error(great[:59] + (last,)), (57, "column"))

    def test_row_ahead_of_column(self):
        self.assertEqual(table_error(((0, 1, 2), (0, 1, 2), (0, 1, 1))), (2, "row"))

    def test_all_squares_of_two(self):
        for cells in itertools.product(range(-1, 3), repeat=4):
            table = (cells[:2], cells[2:])
            wrong = [number for number, row in enumerate(table) if sorted(row) != [0, 1]]
            right = (wrong[0], "row") if wrong else (0, "column") if table[0] == table[1] else None
            self.assertEqual(table_error(table), right)

    def test_great_values(self):
        self.assertEqual(table_error((0,) * 5000), (None, "table"))
        self.assertEqual(table_error(((0,) * 5000,)), (0, "row"))

    def test_value_stays(self):
        values = [[[0]], ([0, 1], [1, 0]), ((0, [1]), {}), T]
        before = copy.deepcopy(values)
        found = [table_error(given) for given in values]
        self.assertEqual([table_error(given) for given in values], found)
        self.assertEqual(exact(values), exact(before))


class Lookups(unittest.TestCase):
    def test_examples(self):
        self.assertEqual((outcome(T, 1, 2), behind(T, 1, 2), ahead(T, 1, 0)), (2, 2, 1))
        self.assertEqual(outcome(table=T, one=1, other=2), 2)
        self.assertEqual(behind(table=T, one=1, out=2), 2)
        self.assertEqual(ahead(table=T, other=1, out=0), 1)

    def test_each_entry(self):
        tables = SMALL_TABLES + TABLES + (lined(60, 7, 11, 3), shuffled(random.Random(1), 60))
        for table in tables:
            for one, other in itertools.product(range(len(table)), repeat=2):
                out = table[one][other]
                self.assertEqual(outcome(table, one, other), out)
                self.assertEqual(behind(table, one, out), other)
                self.assertEqual(ahead(table, other, out), one)


class Value(unittest.TestCase):
    def test_examples(self):
        self.assertEqual(value(T, (0, 1, 2), ("with", 1, ("behind", 2, 0))), 2)
        self.assertEqual(value(table=T, things=(0, 1, 2), formula=2), 2)

    def test_the_words(self):
        for one, other in itertools.product(range(3), repeat=2):
            self.assertEqual(value(T, (one, other), ("with", 0, 1)), outcome(T, one, other))
            self.assertEqual(value(T, (one, other), ("behind", 0, 1)), behind(T, one, other))
            self.assertEqual(value(T, (one, other), ("ahead", 0, 1)), ahead(T, one, other))

    def test_all_small_formulas(self):
        for table in TABLES:
            for things in itertools.product(range(len(table)), repeat=2):
                for formula in formulas(2, 3) + formulas(2, 5)[::7]:
                    self.assertEqual(value(table, things, formula), told(table, things, formula))

    def test_great_formulas(self):
        rng = random.Random(2)
        for size in (5, 17, 60):
            table = shuffled(rng, size)
            for _ in range(40):
                things = tuple(rng.randrange(size) for _ in range(8))
                for formula in (BIG, some_formula(rng, 8, 15), chain(15, "ahead", 3, 2), chain(201, "behind", 5, 1)):
                    self.assertEqual(value(table, things, formula), told(table, things, formula))

    def test_more_things_than_names(self):
        self.assertEqual(value(T, (2, 1, 0, 1, 2), ("with", 0, 1)), 1)

    def test_solved_tells_the_name(self):
        rng = random.Random(3)
        table = shuffled(rng, 60)
        for name in range(8):
            things = [rng.randrange(60) for _ in range(9)]
            things[8] = value(table, tuple(things), BIG)
            self.assertEqual(value(table, tuple(things), solved(BIG, name, 8)), things[name])


class Holds(unittest.TestCase):
    def by_hand(self, table, one, other):
        greatest = max(names_in(one) + names_in(other))
        for things in itertools.product(range(len(table)), repeat=greatest + 1):
            if told(table, things, one) != told(table, things, other):
                return things
        return None

    def check(self, table, one, other):
        right = self.by_hand(table, one, other)
        self.assertEqual(exact(holds(table, one, other)), exact(right), (table, one, other))
        return right

    def test_examples(self):
        self.assertEqual(holds(T, ("with", 0, 1), ("with", 1, 0)), (0, 1))
        self.assertEqual(holds(table=T, one=0, other=1), (0, 1))

    def test_names(self):
        for table in TABLES[1:]:
            for one, other in itertools.product(range(5), repeat=2):
                right = None if one == other else (0,) * max(one, other) + (1,)
                self.assertEqual(holds(table, one, other), right)

    def test_all_small_formulas(self):
        found = formulas(2, 1) + formulas(2, 3)
        told_none = 0
        for table in TABLES + SMALL_TABLES[3:]:
            for one, other in itertools.product(found, repeat=2):
                told_none += self.check(table, one, other) is None
        self.assertGreater(told_none, 100)

    def test_random(self):
        rng = random.Random(4)
        for size, names in ((1, 8), (2, 8), (3, 6), (4, 5), (5, 4), (7, 3), (20, 2), (60, 1)):
            for _ in range(12):
                table = shuffled(rng, size)
                one = some_formula(rng, names, rng.choice((1, 3, 5, 7)))
                self.check(table, one, some_formula(rng, names, rng.choice((1, 3, 5, 15))))
                self.check(table, one, ("with", ("ahead", 0, one), 0))

    def test_laws(self):
        for size in (2, 5, 12, 27):
            table = lined(size, 1, 1, 0)
            self.assertIsNone(holds(table, ("with", 0, ("with", 1, 2)), ("with", ("with", 0, 1), 2)))
            self.assertIsNone(holds(table, ("with", 0, 1), ("with", 1, 0)))
            self.assertIsNone(holds(table, ("ahead", 0, ("with", 1, 0)), 1))

    def test_names_that_stand_in_neither_are_counted(self):
        self.assertEqual(holds(T, 0, 4), (0, 0, 0, 0, 1))
        self.assertEqual(holds(T, ("with", 5, 2), ("with", 2, 5)), (0, 0, 0, 0, 0, 1))
        self.assertEqual(holds(T, ("with", 5, 5), ("with", 5, 5)), None)
        # Of 28 things three names have too many tuples, though only one or two of them stand in the formulas.
        table = lined(28, 1, 1, 0)
        self.refused(table, 2, 2)
        self.refused(table, ("with", 0, 2), ("with", 2, 0))
        self.refused(lined(60, 1, 1, 0), 2, ("with", 2, 2))
        self.assertIsNone(holds(lined(60, 1, 1, 0), ("with", 0, 1), ("with", 1, 0)))

    def refused(self, table, one, other):
        for _ in range(2):
            with self.assertRaises(TooMany) as caught:
                holds(table, one, other)
            self.assertEqual(caught.exception.limit, MAX_TRIES)

    def test_too_many(self):
        for size, names in ((2, 14), (3, 9), (4, 7), (5, 6), (7, 5), (11, 4), (27, 3), (60, 2)):
            table = lined(size, 1, 1, 0)
            self.assertLessEqual(size ** names, 20000)
            self.assertIsNone(holds(table, ("with", 0, names - 1), ("with", names - 1, 0)))
        for size, names in ((2, 15), (3, 10), (4, 8), (5, 7), (8, 5), (12, 4), (28, 3), (60, 3)):
            table = lined(size, 1, 1, 0)
            self.assertGreater(size ** names, 20000)
            self.refused(table, names - 1, names - 1)
            self.refused(table, 0, names - 1)

    def test_just_below_and_above(self):
        # 141 * 141 is 19881 and 142 * 142 is 20164: greater than tables may be, but not refused for it.
        self.assertIsNone(holds(lined(141, 1, 1, 0), 1, 1))
        self.refused(lined(142, 1, 1, 0), 1, 1)

    def test_the_greatest_formulas(self):
        table = lined(3, 1, 1, 1)
        self.assertIsNone(holds(table, BIG, BIG))
        self.check(table, BIG, 7)
        table = lined(27, 1, 2, 0)
        for one in (chain(15, "with", 2, 1), chain(15, "ahead", 2, 2)):
            self.assertIsNone(holds(table, one, one))
            self.check(table, one, chain(15, "behind", 2, 2))


class Kinds(unittest.TestCase):
    def by_hand(self, table):
        things = range(len(table))
        found = []
        if all(table[table[x][y]][z] == table[x][table[y][z]] for x in things for y in things for z in things):
            found.append("grouped")
        if any(all(table[e][x] == x and table[x][e] == x for x in things) for e in things):
            found.append("neutral")
        if all(table[x][x] == x for x in things):
            found.append("own")
        if all(table[x][y] == table[y][x] for x in things for y in things):
            found.append("turned")
        return tuple(found)

    def test_examples(self):
        self.assertEqual(kinds(T), ())
        self.assertEqual(kinds(((0, 1, 2), (1, 2, 0), (2, 0, 1))), ("grouped", "neutral", "turned"))
        self.assertEqual(kinds(table=T), ())

    def test_one_thing(self):
        self.assertEqual(kinds(((0,),)), ("grouped", "neutral", "own", "turned"))

    def test_each_kind(self):
        self.assertEqual(kinds(((0, 2, 1), (2, 1, 0), (1, 0, 2))), ("own", "turned"))
        self.assertEqual(kinds(lined(5, 2, 4, 0)), ("own",))
        self.assertEqual(kinds(lined(5, 2, 2, 0)), ("turned",))
        # A neutral thing on one side alone is none.
        self.assertEqual(kinds(lined(5, 1, 2, 0)), ())
        self.assertEqual(kinds(lined(5, 2, 1, 0)), ())
        self.assertEqual(kinds(lined(5, 1, 1, 3)), ("grouped", "neutral", "turned"))
        turns = tuple(itertools.permutations(range(3)))
        group = tuple(tuple(turns.index(tuple(x[k] for k in y)) for y in turns) for x in turns)
        self.assertEqual(kinds(group), ("grouped", "neutral"))

    def test_all_tables_of_few_things(self):
        tables = list(SMALL_TABLES) + latin(4)
        self.assertEqual(len(tables), 15 + 576)
        for table in tables:
            self.assertEqual(kinds(table), self.by_hand(table))

    def test_a_table_that_is_nearly_grouped(self):
        loop = (
            (0, 1, 2, 3, 4), (1, 0, 3, 4, 2), (2, 4, 0, 1, 3), (3, 2, 4, 0, 1), (4, 3, 1, 2, 0),
        )
        self.assertEqual(kinds(loop), ("neutral",))

    def test_random(self):
        rng = random.Random(5)
        for size in (5, 6, 7, 12, 30):
            for table in (shuffled(rng, size), lined(size, 1, 1, 2), lined(size, 1, size - 1, 0)):
                self.assertEqual(kinds(table), self.by_hand(table))

    def test_the_greatest(self):
        great = lined(60, 1, 1, 0)
        for _ in range(20):
            self.assertEqual(kinds(great), ("grouped", "neutral", "turned"))
        self.assertEqual(kinds(lined(60, 1, 1, 7)), ("grouped", "neutral", "turned"))
        self.assertEqual(kinds(lined(60, 7, 1, 0)), ())
        self.assertEqual(kinds(lined(59, 2, 58, 0)), ("own",))
        self.assertEqual(kinds(lined(59, 30, 30, 0)), ("own", "turned"))


if __name__ == "__main__":
    unittest.main()
