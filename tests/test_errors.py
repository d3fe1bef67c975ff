import unittest

from solvedbothsides import errors
from solvedbothsides.errors import (
    BadFacts, BadFormula, BadSize, BadText, Full, NoClaim, NoEntry, NoPair, NoTable, NotOnce, NothingToUndo,
    TableError, Taken, TooMany, TornGivens, UnlikeNames,
)

UNDER_TABLE_ERROR = {
    BadFacts: ("number", "word"),
    BadFormula: ("word",),
    BadSize: ("size",),
    BadText: ("line", "number"),
    Full: (),
    NoTable: ("pair", "numbers"),
    NotOnce: ("name",),
    NothingToUndo: (),
    Taken: ("name",),
    TooMany: ("limit",),
    TornGivens: ("numbers",),
    UnlikeNames: ("one", "other"),
}
UNDER_LOOKUP_ERROR = {NoClaim: ("number",), NoEntry: ("number",), NoPair: ("number",)}
FIELDS = {**UNDER_TABLE_ERROR, **UNDER_LOOKUP_ERROR}
VALUES = [
    None, True, False, 0, -1, 10 ** 59, "", "word", "a\nb", (), (0, (1,)), [], [1, [2]], {}, {"a": [1]}, object(),
    Full(),
]


class Bases(unittest.TestCase):
    def test_table_error(self):
        self.assertEqual(TableError.__bases__, (ValueError,))
        self.assertFalse(issubclass(TableError, LookupError))

    def test_table_errors(self):
        for error in UNDER_TABLE_ERROR:
            with self.subTest(error.__name__):
                self.assertEqual(error.__bases__, (TableError,))
                self.assertTrue(issubclass(error, ValueError))
                self.assertFalse(issubclass(error, LookupError))

    def test_lookup_errors(self):
        for error in UNDER_LOOKUP_ERROR:
            with self.subTest(error.__name__):
                self.assertEqual(error.__bases__, (LookupError,))
                self.assertFalse(issubclass(error, (ValueError, TableError)))

    def test_no_error_is_another_one(self):
        for error in FIELDS:
            for other in FIELDS:
                with self.subTest(error.__name__, other=other.__name__):
                    self.assertEqual(issubclass(error, other), error is other)

    def test_no_other_errors(self):
        found = {name for name, what in vars(errors).items() if isinstance(what, type)}
        self.assertEqual(found, {"TableError"} | {error.__name__ for error in FIELDS})


class Fields(unittest.TestCase):
    def check(self, error, values):
        made = error(*values)
        self.assertEqual(len(FIELDS[error]), len(values))
        for name, value in zip(FIELDS[error], values):
            self.assertIs(getattr(made, name), value)
        return made

    def test_fields_by_position(self):
        for error, names in FIELDS.items():
            for at in range(len(VALUES)):
                with self.subTest(error.__name__, value=VALUES[at]):
                    self.check(error, [VALUES[(at + k) % len(VALUES)] for k in range(len(names))])

    def test_no_fields_but_these(self):
        for error, names in FIELDS.items():
            with self.subTest(error.__name__):
                self.assertEqual(set(vars(self.check(error, VALUES[:len(names)]))), set(names))

    def test_values_stay(self):
        value = [1, {"a": [True, None]}, (0,)]
        for error, names in FIELDS.items():
            self.check(error, [value] * len(names))
        self.assertEqual(repr(value), "[1, {'a': [True, None]}, (0,)]")

    def test_raised_and_caught(self):
        for error, names in FIELDS.items():
            base = LookupError if error in UNDER_LOOKUP_ERROR else TableError
            with self.subTest(error.__name__), self.assertRaises(base) as caught:
                raise error(*names)
            self.assertIs(type(caught.exception), error)
            self.assertEqual(tuple(getattr(caught.exception, name) for name in names), names)


if __name__ == "__main__":
    unittest.main()
