import copy
import itertools
import random
import unittest

from solvedbothsides.blocks import begun_error, block_error, completed, grown, lacking
from solvedbothsides.bounds import MAX_TABLE
from solvedbothsides.errors import BadSize, TableError
from helper import ODD, T, exact, is_table, latin, lined, shuffled


def corner(table, rows, columns):
    """Return the block of the first rows and columns of a table."""
    return tuple(row[:columns] for row in table[:rows])


def some_block(rng, size, rows, columns):
    """Return a block for this size made cell by cell, whether a table goes on from it or not."""
    while True:
        block = [[None] * columns for _ in range(rows)]
        for x, y in itertools.product(range(rows), range(columns)):
            taken = set(block[x]) | {row[y] for row in block}
            free = [thing for thing in range(size) if thing not in taken]
            if not free:
                break
            # The first things are taken more often, so that the last ones are often lacking.
            block[x][y] = free[min(rng.randrange(len(free)), rng.randrange(len(free)))]
        else:
            return tuple(map(tuple, block))


class BlockError(unittest.TestCase):
    def test_blocks(self):
        for size in range(1, MAX_TABLE + 1):
            table = lined(size, 1, 1, 0)
            for rows, columns in itertools.product({1, (size + 1) // 2, size}, repeat=2):
                self.assertIsNone(block_error(size, corner(table, rows, columns)))
        self.assertIsNone(block_error(3, T))
        self.assertIsNone(block_error(size=3, value=T))
        self.assertIsNone(block_error(60, ((59,),)))

    def test_examples(self):
        self.assertEqual(block_error(3, ((0, 1), (0, 2))), (0, "column"))

    def test_no_block(self):
        for value in ODD + ([[0]], [(0,)], "0", {0: (0,)}):
            if not isinstance(value, tuple) or value == ():
                self.assertEqual(block_error(3, value), (None, "block"))
        for size in (1, 2, 5, 60):
            self.assertEqual(block_error(size, ((0,),) * (size + 1)), (None, "block"))
            self.assertEqual(block_error(size, ()), (None, "block"))

    def test_wrong_row(self):
        wrong = ODD + ((), (0, 0), (0, 3), (3, 0), (-1, 0), [0, 1], "01", (True, 0), (0, False), (0, None), (0, "1"),
                       (0, 1, 2, 3), (0, (1,)), (0, [1]))
        for row in wrong:
            with self.subTest(row):
                self.assertEqual(block_error(3, (row, (1, 2))), (0, "row"))
                self.assertEqual(block_error(3, ((1, 2), row)), (1, "row"))
                self.assertEqual(block_error(3, ((1, 2), (2, 1), row)), (2, "row"))
                self.assertEqual(block_error(3, ((1, 2), row, None)), (1, "row"))

    def test_rows_of_other_lengths(self):
        self.assertEqual(block_error(3, ((0, 1), (1, 2, 0))), (1, "row"))
        self.assertEqual(block_error(3, ((0, 1), (1,))), (1, "row"))
        self.assertEqual(block_error(3, ((0, 1), (1, 0), (2,))), (2, "row"))
        self.assertEqual(block_error(3, ((0,), (1, 0), (2, 1))), (1, "row"))
        # The first row is wrong by itself, and is looked at first.
        self.assertEqual(block_error(3, ((0, 0, 0), (1, 0))), (0, "row"))
        self.assertEqual(block_error(2, ((0, 1, 2), (1, 0))), (0, "row"))
        self.assertEqual(block_error(2, ((0, 1), (1, 0, 2))), (1, "row"))

    def test_wrong_column(self):
        self.assertEqual(block_error(3, ((0, 1), (2, 1))), (1, "column"))
        self.assertEqual(block_error(3, ((0, 1), (1, 2), (2, 1))), (1, "column"))
        self.assertEqual(block_error(3, ((0, 1), (0, 1))), (0, "column"))
        self.assertEqual(block_error(3, ((0, 1), (0, 1), (2, 2))), (2, "row"))
        great = lined(60, 1, 1, 0)
        last = great[59][:58] + great[59][58:][::-1]
        self.assertEqual(block_error(60, great[:59] + (last,)), (58, "column"))

    def test_the_size_counts(self):
        self.assertIsNone(block_error(6, ((5,),)))
        self.assertEqual(block_error(5, ((5,),)), (0, "row"))
        self.assertIsNone(block_error(1, ((0,),)))
        self.assertEqual(block_error(1, ((0, 0),)), (0, "row"))
        self.assertEqual(block_error(1, ((1,),)), (0, "row"))

    def test_great_values(self):
        self.assertEqual(block_error(60, (0,) * 5000), (None, "block"))
        self.assertEqual(block_error(60, ((0,) * 5000,)), (0, "row"))

    def test_value_stays(self):
        values = [[[0]], ([0], [1]), ((0, [1]), {}), T]
        before = copy.deepcopy(values)
        found = [block_error(3, value) for value in values]
        self.assertEqual([block_error(3, value) for value in values], found)
        self.assertEqual(exact(values), exact(before))


class Lacking(unittest.TestCase):
    def by_hand(self, block, size):
        least = len(block) + len(block[0]) - size
        return tuple(thing for thing in range(size) if sum(row.count(thing) for row in block) < least)

    def test_examples(self):
        self.assertEqual(lacking(((0, 1), (1, 0)), 3), (2,))
        self.assertEqual(lacking(block=((0, 1), (1, 0)), size=3), (2,))

    def test_none(self):
        for size in (1, 2, 7, 60):
            table = lined(size, 1, 1, 0)
            for rows, columns in ((1, 1), (size, 1), (1, size), (size, size), ((size + 1) // 2, size)):
                self.assertEqual(lacking(corner(table, rows, columns), size), ())

    def test_several(self):
        self.assertEqual(lacking(((0, 1), (1, 0)), 2), ())
        self.assertEqual(lacking(((0, 1, 2), (1, 2, 0), (2, 0, 1)), 5), (3, 4))
        self.assertEqual(lacking(((0, 1, 2), (1, 2, 0), (2, 0, 1)), 4), (3,))
        self.assertEqual(lacking(((0, 1, 2), (1, 2, 0), (2, 0, 1)), 6), ())
        self.assertEqual(lacking(corner(lined(58, 1, 1, 0), 58, 58), 60), (58, 59))

    def test_by_hand(self):
        rng = random.Random(1)
        for size in range(1, 14):
            for rows, columns in itertools.product(range(1, (2 * size + 2) // 3 + 1), repeat=2):
                block = some_block(rng, size, rows, columns)
                self.assertEqual(lacking(block, size), self.by_hand(block, size))
                block = corner(shuffled(rng, size + 3), rows, columns)
                self.assertEqual(lacking(block, size + 3), self.by_hand(block, size + 3))


class Completed(unittest.TestCase):
    def check(self, block, size):
        found = completed(block, size)
        if lacking(block, size):
            self.assertIsNone(found)
        else:
            self.assertTrue(is_table(found), (block, size))
            self.assertEqual(len(found), size)
            self.assertEqual(corner(found, len(block), len(block[0])), block)
        return found

    def test_examples(self):
        self.assertIsNone(completed(((0, 1), (1, 0)), 3))
        self.assertEqual(completed(((0, 1), (1, 2)), 3), ((0, 1, 2), (1, 2, 0), (2, 0, 1)))
        self.assertEqual(completed(block=((0, 1), (1, 2)), size=3), ((0, 1, 2), (1, 2, 0), (2, 0, 1)))

    def test_all_blocks_of_few_things(self):
        tables = {size: latin(size) for size in range(1, 5)}
        for size in range(1, 5):
            for rows, columns in itertools.product(range(1, size + 1), range(1, min(size, 3) + 1)):
                there = {corner(table, rows, columns) for table in tables[size]}
                lines = list(itertools.permutations(range(size), columns))
                for block in itertools.product(lines, repeat=rows):
                    if block_error(size, block) is None:
                        # A table goes on from it just if no thing is lacking.
                        self.assertEqual(self.check(block, size) is not None, block in there)

    def test_every_size(self):
        rng = random.Random(2)
        for size in range(1, MAX_TABLE + 1):
            table = shuffled(rng, size)
            for rows, columns in {(1, 1), (size, 1), (1, size), (size, size), ((size + 1) // 2,) * 2,
                                  (size - size // 4, size - size // 3), (size - size // 5, size // 7 + 1)}:
                self.assertIsNotNone(self.check(corner(table, rows, columns), size))

    def test_made_cell_by_cell(self):
        rng = random.Random(3)
        told_none = 0
        for size in range(2, 30):
            for _ in range(12):
                rows = rng.randint(1, max(1, size * 2 // 3))
                columns = rng.randint(1, max(1, size * 2 // 3))
                told_none += self.check(some_block(rng, size, rows, columns), size) is None
        self.assertGreater(told_none, 20)

    def test_things_that_stand_just_often_enough(self):
        for size in range(2, MAX_TABLE + 1, 3):
            for rows in {1, size // 3, size // 2, size - 1} - {0}:
                # All things that stand in the columns from the last table stand there as often as they have to.
                block = corner(lined(size, 1, 1, 0), rows, size - rows)
                self.assertIsNotNone(self.check(block, size))
        rng = random.Random(4)
        for size in range(2, 25):
            table = shuffled(rng, size)
            rows = rng.randint(1, size)
            columns = rng.randint(1, size)
            block = corner(table, rows, columns)
            self.check(block, size)
            # In one size less than twice the rows each thing has to stand there once.
            if size > 2:
                less = (size + 1) // 2
                self.assertIsNotNone(self.check(corner(lined(size, 1, 1, 0), less, less), size))

    def test_a_thing_that_stands_once_too_seldom(self):
        rng = random.Random(5)
        for size in range(2, 31):
            table = shuffled(rng, size)
            found = {}
            # A square of its own in the corner leaves no place for the things that do not stand in it.
            for own in range(1, size):
                block = lined(own, 1, 1, 0)
                found[own] = self.check(block, size) is not None
                self.assertEqual(found[own], 2 * own <= size)
            self.assertIsNotNone(self.check(table, size))

    def test_the_greatest_many_times(self):
        rng = random.Random(6)
        for _ in range(5):
            for rows, columns in ((1, 1), (30, 30), (59, 1), (1, 59), (40, 20), (59, 59), (60, 60), (45, 45)):
                self.assertIsNotNone(self.check(corner(shuffled(rng, 60), rows, columns), 60))

    def test_again(self):
        block = some_block(random.Random(7), 40, 15, 20)
        self.assertEqual(completed(block, 40), completed(block, 40))


class BegunError(unittest.TestCase):
    def test_begun_squares(self):
        for size in range(1, 31):
            self.assertIsNone(begun_error(((None,) * size,) * size))
            self.assertIsNone(begun_error(lined(size, 1, 1, 0)))
        self.assertIsNone(begun_error(((0, None), (None, 0))))
        self.assertIsNone(begun_error(value=((0, None), (1, 0))))

    def test_examples(self):
        self.assertEqual(begun_error(((0, 0), (None, 1))), (0, "row"))

    def test_no_square(self):
        for value in ODD + ([[0]], [(0,)], "0", {0: (0,)}):
            if not isinstance(value, tuple) or value == ():
                self.assertEqual(begun_error(value), (None, "square"))
        self.assertEqual(begun_error(((None,) * 31,) * 31), (None, "square"))
        self.assertEqual(begun_error((None,) * 31), (None, "square"))

    def test_wrong_row(self):
        wrong = ODD + ((0,), (0, None, 1), (0, 0), (1, 1), (2, 0), (0, 2), (-1, 0), [0, 1], "01", (True, 0),
                       (0, False), ("0", 1), (0, (1,)), (0, [1]), (0, {}))
        for row in wrong:
            with self.subTest(row):
                self.assertEqual(begun_error((row, (None, None))), (0, "row"))
                self.assertEqual(begun_error(((None, None), row)), (1, "row"))
                self.assertEqual(begun_error((row, None)), (0, "row"))
                self.assertEqual(begun_error(((0, 1), row)), (1, "row"))

    def test_wrong_column(self):
        self.assertEqual(begun_error(((0, None), (0, None))), (0, "column"))
        self.assertEqual(begun_error(((None, 1), (0, 1))), (1, "column"))
        self.assertEqual(begun_error(((0, 1), (0, 1))), (0, "column"))
        self.assertEqual(begun_error(((None, 1, 2), (0, 2, 1), (None, 0, 1))), (2, "column"))
        self.assertEqual(begun_error(((0, None), (0, 2))), (1, "row"))
        great = [[None] * 30 for _ in range(30)]
        great[0][29] = great[29][29] = 29
        self.assertEqual(begun_error(tuple(map(tuple, great))), (29, "column"))

    def test_none_is_no_thing_that_stands_twice(self):
        self.assertIsNone(begun_error(((None, None, None), (None, 2, None), (None, None, 2))))

    def test_great_values(self):
        self.assertEqual(begun_error((None,) * 5000), (None, "square"))
        self.assertEqual(begun_error(((None,) * 5000,)), (0, "row"))

    def test_value_stays(self):
        values = [[[0]], ([0], [1]), ((0, [1]), {}), ((0, None), (None, 0))]
        before = copy.deepcopy(values)
        found = [begun_error(value) for value in values]
        self.assertEqual([begun_error(value) for value in values], found)
        self.assertEqual(exact(values), exact(before))


class Grown(unittest.TestCase):
    def some_begun(self, rng, size, holes):
        """Return a begun square in which about so many cells of ten are None, whether a table of size has it or not."""
        begun = [[None] * size for _ in range(size)]
        for x, y in itertools.product(range(size), repeat=2):
            taken = set(begun[x]) | {row[y] for row in begun}
            free = [thing for thing in range(size) if thing not in taken]
            if free and rng.randrange(10) >= holes:
                begun[x][y] = rng.choice(free)
        return tuple(map(tuple, begun))

    def check(self, begun, size):
        found = grown(begun, size)
        self.assertTrue(is_table(found))
        self.assertEqual(len(found), size)
        for row, there in zip(begun, found):
            for cell, thing in zip(row, there):
                self.assertIn(cell, (None, thing))

    def test_examples(self):
        found = grown(((0, None), (None, 0)), 5)
        self.assertTrue(is_table(found))
        self.assertEqual((len(found), found[0][0], found[1][1]), (5, 0, 0))
        self.assertEqual(grown(begun=((0, None), (None, 0)), size=5), found)

    def test_all_begun_squares_of_two(self):
        for cells in itertools.product((None, 0, 1), repeat=4):
            begun = (cells[:2], cells[2:])
            if begun_error(begun) is None:
                for size in range(4, 9):
                    self.check(begun, size)

    def test_every_size(self):
        rng = random.Random(1)
        for rows in (1, 2, 3, 4, 7, 12, 19, 25, 29, 30):
            for size in range(2 * rows, MAX_TABLE + 1):
                self.check(self.some_begun(rng, rows, rng.randrange(11)), size)

    def test_every_number_of_rows(self):
        rng = random.Random(2)
        for rows in range(1, 31):
            for holes in (0, 1, 5, 10):
                self.check(self.some_begun(rng, rows, holes), 2 * rows)
            self.check(lined(rows, 1, 1, 0), 2 * rows)

    def test_thirty_rows_many_times(self):
        rng = random.Random(3)
        for _ in range(20):
            self.check(shuffled(rng, 30), 60)
            self.check(self.some_begun(rng, 30, 3), 60)

    def test_size_refused(self):
        for rows in (1, 2, 5, 29, 30):
            begun = ((None,) * rows,) * rows
            for size in ODD + (0, 1, 2 * rows - 1, 61, 62, 600, (60,), [60], "60"):
                if not (type(size) is int and 2 * rows <= size <= 60):
                    for _ in range(2):
                        with self.subTest(rows=rows, size=size), self.assertRaises(BadSize) as caught:
                            grown(begun, size)
                        self.assertIsInstance(caught.exception, TableError)
                        self.assertIs(caught.exception.size, size)

    def test_truths_are_no_sizes(self):
        for size in (True, False):
            with self.assertRaises(BadSize) as caught:
                grown(((None,),), size)
            self.assertIs(caught.exception.size, size)

    def test_again(self):
        begun = self.some_begun(random.Random(4), 20, 4)
        self.assertEqual(grown(begun, 47), grown(begun, 47))


if __name__ == "__main__":
    unittest.main()
