import unittest

from solvedbothsides import bounds

BOUNDS = {
    "MAX_CLAIMS": 4, "MAX_EDITS": 20, "MAX_ENTRIES": 10, "MAX_FEW": 12, "MAX_GIVEN": 3, "MAX_LEAST": 4,
    "MAX_LONG": 13, "MAX_NAMES": 8, "MAX_ROAD": 40, "MAX_SHORT": 5, "MAX_SIZE": 15, "MAX_TABLE": 60,
    "MAX_TRIES": 20000, "MAX_UNLIKE": 6, "MAX_WORD": 30,
}


class Bounds(unittest.TestCase):
    def test_each_bound(self):
        for name, number in BOUNDS.items():
            with self.subTest(name):
                self.assertEqual(getattr(bounds, name), number)
                self.assertIs(type(getattr(bounds, name)), int)

    def test_no_other_bound(self):
        self.assertEqual({name for name in vars(bounds) if name.startswith("MAX")}, set(BOUNDS))


if __name__ == "__main__":
    unittest.main()
