"""What holds for all functions: equal calls, arguments that stay, what is returned, arguments by their names."""

import copy
import importlib
import inspect
import unittest

from solvedbothsides.bounds import MAX_TABLE
from helper import BIG, F, LONG_CHAINS, OTHER_BIG, T, chain, exact, is_plain_value, lined
from test_form import INTERFACE, PACKAGE

EIGHT = (8, LONG_CHAINS[2][0], ((0, 7), (1, 7), (2, 7), (3, 7), (4, 7), (5, 7)))
FREE = (8, (), EIGHT[2])
WITHOUT_WORLD = (8, LONG_CHAINS[0][0], ((0, 6),))
GREAT = lined(MAX_TABLE, 7, 11, 3)
BLOCK = tuple(row[:20] for row in GREAT[:40])
BEGUN = ((None,) * 30,) * 15 + lined(30, 1, 1, 0)[15:]
SOME = [
    None, True, 0, "x", [], [[0, [1]]], {}, {"a": [1, {2: [3]}]}, (), ((0, [0]),), (T, [0, 1, 2, 1]), (T, (0, 1, 2, 1)),
]
GIVENS = ((("with", 0, 1), ("with", 1, 0)), (("with", 0, 0), 3))
TORN_GIVENS = ((0, 2), (1, 3), (("behind", 0, 2), 0))
LONG_GIVENS = (
    (("with", 7, ("behind", 0, 7)), ("ahead", 7, ("with", 1, 7))),
    (("with", ("ahead", 7, 2), 7), ("behind", 7, ("behind", 3, 7))),
    (7, ("ahead", ("with", 7, 7), 5)),
)
LONG = ("with", ("behind", ("with", 0, 7), ("ahead", 7, 1)), ("ahead", ("with", 2, 7), 3))
OTHER_LONG = ("behind", ("ahead", ("behind", 7, 0), ("with", 7, 7)), ("with", 6, ("behind", 5, 7)))
# For each function several tuples of arguments, by position.
CALLS = {
    "formulas": {
        "size": [(BIG,)],
        "formula_error": [(8, BIG)] + [(2, value) for value in SOME],
        "solved": [(BIG, 3, 8)],
    },
    "facts": {
        "facts_error": [(F,), (EIGHT,)] + [(value,) for value in SOME],
        "merged": [(F,), (EIGHT,), (WITHOUT_WORLD,)],
        "forcing": [(F, 1, 3), (EIGHT, 4, 6), (EIGHT, 0, 7), (WITHOUT_WORLD, 0, 6)],
        "clash": [(F,), (EIGHT,), (WITHOUT_WORLD,)],
    },
    "tables": {
        "table_error": [(T,), (GREAT,)] + [(value,) for value in SOME],
        "outcome": [(T, 1, 2), (GREAT, 59, 58)],
        "behind": [(T, 1, 2), (GREAT, 59, 58)],
        "ahead": [(T, 1, 2), (GREAT, 59, 58)],
        "value": [(T, (0, 1, 2, 0, 1, 2, 0, 1), BIG), (GREAT, tuple(range(50, 58)), OTHER_BIG)],
        "holds": [(T, BIG, OTHER_BIG), (T, BIG, BIG), (GREAT, chain(15, "with", 1), chain(15, "ahead", 0))],
        "kinds": [(T,), (GREAT,), (lined(MAX_TABLE, 1, 1, 0),)],
    },
    "worlds": {
        "world_error": [(F, (T, (0, 1, 2, 1)))] + [(F, value) for value in SOME],
        "verdict": [(F, ("with", 0, 3), 2), (F, ("with", 0, 0), 2), (EIGHT, BIG, OTHER_BIG)],
        "parted": [(F, ("with", 0, 3), 2), (F, ("with", 0, 0), 2), (EIGHT, BIG, OTHER_BIG)],
        "joined": [(F, ("with", 0, 3), 2), (F, ("with", 0, 0), 2), (EIGHT, BIG, OTHER_BIG)],
        "world": [(F,), (EIGHT,)],
        "world_of": [(F, 8), (F, 60), (EIGHT, 16), (EIGHT, 60)],
    },
    "blocks": {
        "block_error": [(60, BLOCK), (40, BLOCK)] + [(3, value) for value in SOME],
        "lacking": [(BLOCK, 60), (((0, 1), (1, 0)), 3)],
        "completed": [(BLOCK, 60), (((0, 1), (1, 0)), 3)],
        "begun_error": [(BEGUN,)] + [(value,) for value in SOME],
        "grown": [(BEGUN, 60), (((0, None), (None, 0)), 5)],
    },
    "plain": {
        "plain": [(F, ("with", ("ahead", 3, 2), 1)), (EIGHT, BIG), (EIGHT, OTHER_BIG)],
        "same": [(F, 1, 3), (F, 0, 1), (EIGHT, BIG, OTHER_BIG), (EIGHT, BIG, BIG)],
        "road": [(F, 1, 3), (F, 0, 1), (EIGHT, chain(15, "with", 5), chain(15, "ahead", 6, 2)), (EIGHT, BIG, BIG)],
        "is_road": [(F, 1, 3, (1, 3)), (EIGHT, BIG, BIG, (BIG,)), (EIGHT, 5, 6, (5, 6) * 20)]
        + [(F, 1, 3, value) for value in SOME],
    },
    "follow": {
        "follows": [(F, (0, 2, 2)), (EIGHT, (5, 4, 3)), (EIGHT, (7, 7, 7))],
        "spare": [(F,), (EIGHT,)],
        "alike": [(F, F), (EIGHT, EIGHT), (EIGHT, WITHOUT_WORLD), (WITHOUT_WORLD, WITHOUT_WORLD)],
    },
    "placing": {
        "placed": [(F, T), (EIGHT, T), ((2, (), ()), GREAT), (WITHOUT_WORLD, T)],
        "places": [(F, T), (EIGHT, T), ((2, (), ()), GREAT), (WITHOUT_WORLD, T)],
    },
    "turning": {
        "turned": [(T, (1, 0, 2)), (GREAT, (2, 0, 1))],
        "turned_facts": [(F, (0, 2, 1)), (EIGHT, (1, 2, 0)), (WITHOUT_WORLD, (2, 1, 0))],
        "turned_formula": [(("behind", 0, 1), (1, 0, 2)), (BIG, (1, 2, 0))],
        "back": [((1, 2, 0),), ((0, 1, 2),)],
    },
    "digits": {
        "mark": [(T, (1, 2)), (GREAT, tuple(range(30)))],
        "is_marked": [(T, (1, 2, 0)), (T, (1, 2)), (GREAT, tuple(range(30)))],
        "missed": [(T,), (GREAT,), (lined(59, 2, 1, 0),)],
    },
    "ciphers": {
        "ciphered": [(T, 1, (0, 2, 2)), (GREAT, 59, tuple(range(30)))],
        "deciphered": [(T, 1, (1, 2, 0)), (GREAT, 59, tuple(range(30)))],
        "keys": [(T, (((0, 2), (1, 2)),)), (T, ()), (GREAT, (((0,), (0,)),) * 10)],
    },
    "givens": {
        "givens_error": [(2, GIVENS), (8, LONG_GIVENS)] + [(2, value) for value in SOME],
        "torn": [(F, GIVENS), (FREE, LONG_GIVENS), (EIGHT, LONG_GIVENS), (F, TORN_GIVENS)],
        "verdict_given": [(F, GIVENS, ("with", 0, 3), 2), (FREE, LONG_GIVENS, LONG, OTHER_LONG)],
        "reasons": [(F, GIVENS, ("with", 1, 0), 2), (F, GIVENS, 0, 2), (FREE, LONG_GIVENS, LONG, OTHER_LONG)],
        "world_given": [
            (*arguments, is_same) for is_same in (True, False)
            for arguments in ((F, GIVENS, ("with", 0, 3), 2), (FREE, LONG_GIVENS, LONG, OTHER_LONG))
        ],
    },
    "least": {"least_size": [(F,), (EIGHT,), ((8, LONG_CHAINS[1][0], ()),)]},
    "spans": {
        "span": [(T, (0, 1)), (T, (2, 2)), (GREAT, (59,))],
        "lone": [(T,), (GREAT,)],
        "makers": [(T,), (lined(12, 1, 1, 0),)],
    },
    "texts": {
        "formula_text": [(BIG,), (0,)],
        "facts_text": [(F,), (EIGHT,), (WITHOUT_WORLD,)],
        "read_formula": [(2, " ahead 0  1"), (8, "with 7 behind 6 5")],
        "read_facts": [("names 4\n0 with 1 gives 2\n0 unlike 1",), ("names 1",)],
    },
}


class Conventions(unittest.TestCase):
    def each(self):
        for file, functions in CALLS.items():
            module = importlib.import_module(f"{PACKAGE}.{file}")
            for name, calls in functions.items():
                for arguments in calls:
                    yield getattr(module, name), arguments

    def test_each_function_is_called(self):
        # What books and desks are is tested with them.
        for file, listed in INTERFACE.items():
            if file not in ("errors", "books", "desks"):
                self.assertEqual(set(CALLS[file]), set(listed))

    def test_equal_calls_and_arguments_that_stay(self):
        for function, arguments in self.each():
            before = exact(copy.deepcopy(arguments))
            first = exact(function(*arguments))
            self.assertEqual(exact(arguments), before, function)
            for _ in range(3):
                self.assertEqual(exact(function(*copy.deepcopy(arguments))), first, function)
            self.assertEqual(exact(arguments), before, function)

    def test_what_is_returned(self):
        for function, arguments in self.each():
            self.assertTrue(is_plain_value(function(*arguments)), function)

    def test_by_name(self):
        for function, arguments in self.each():
            names = list(inspect.signature(function).parameters)
            named = dict(zip(names, arguments))
            self.assertEqual(exact(function(**named)), exact(function(*arguments)), function)

    def test_many_times_in_a_row(self):
        for function, arguments in self.each():
            for _ in range(25):
                function(*arguments)


if __name__ == "__main__":
    unittest.main()
