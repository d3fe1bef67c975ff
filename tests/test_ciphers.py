import itertools
import random
import unittest

from solvedbothsides.bounds import MAX_WORD
from solvedbothsides.ciphers import ciphered, deciphered, keys
from helper import SMALL_TABLES, T, TABLES, lined, shuffled


def ciphered_by_hand(table, key, word):
    """Return the secret word: each thing of it stands in the row of the one ahead, at the place of the word's thing."""
    if not word:
        return ()
    first = table[key][word[0]]
    return (first, *ciphered_by_hand(table, first, word[1:]))


def some_word(rng, table, most=MAX_WORD):
    return tuple(rng.randrange(len(table)) for _ in range(rng.randint(1, most)))


class Ciphered(unittest.TestCase):
    def check(self, table, key, word):
        right = ciphered_by_hand(table, key, word)
        self.assertEqual(ciphered(table, key, word), right, (table, key, word))
        self.assertEqual(deciphered(table, key, right), word, (table, key, word))
        # Each word is one that is made of another one, too.
        self.assertEqual(ciphered(table, key, deciphered(table, key, word)), word, (table, key, word))

    def test_examples(self):
        self.assertEqual(ciphered(T, 1, (0, 2, 2)), (1, 2, 0))
        self.assertEqual(deciphered(T, 1, (1, 2, 0)), (0, 2, 2))
        self.assertEqual(ciphered(table=T, key=1, word=(0, 2, 2)), (1, 2, 0))
        self.assertEqual(deciphered(table=T, key=1, word=(1, 2, 0)), (0, 2, 2))

    def test_step_by_step(self):
        self.assertEqual(ciphered(T, 0, (1,)), (T[0][1],))
        self.assertEqual(ciphered(T, 2, (1, 1)), (T[2][1], T[T[2][1]][1]))
        # The key stands first: with it behind, 1 would come out.
        self.assertEqual((ciphered(T, 0, (1,)), T[1][0]), ((2,), 1))

    def test_short_words_in_small_tables(self):
        for table in SMALL_TABLES:
            things = range(len(table))
            for many in (1, 2, 3):
                for key, *word in itertools.product(things, repeat=many + 1):
                    self.check(table, key, tuple(word))

    def test_many_words(self):
        rng = random.Random(1)
        for table in (*TABLES, shuffled(rng, 7), shuffled(rng, 60), lined(60, 7, 11, 3)):
            for _ in range(60):
                self.check(table, rng.randrange(len(table)), some_word(rng, table))

    def test_the_greatest(self):
        table = lined(60, 7, 11, 3)
        for many in (1, MAX_WORD, MAX_WORD + 1, 3 * MAX_WORD):
            for thing in (0, 59):
                self.check(table, thing, (thing,) * many)
                self.check(table, 59 - thing, (thing,) * many)

    def test_kinds_of_what_is_returned(self):
        for made in (ciphered(T, 1, (0,)), deciphered(T, 1, (0,)), keys(T, ())):
            self.assertIs(type(made), tuple)
            self.assertTrue(all(type(thing) is int for thing in made))


class Keys(unittest.TestCase):
    def check(self, table, pairs):
        right = tuple(
            key for key in range(len(table))
            if all(ciphered_by_hand(table, key, word) == secret for word, secret in pairs)
        )
        self.assertEqual(keys(table, pairs), right, (table, pairs))
        return right

    def test_examples(self):
        self.assertEqual(keys(T, (((0, 2), (1, 2)),)), (1,))
        self.assertEqual(keys(table=T, pairs=(((0, 2), (1, 2)),)), (1,))

    def test_no_pairs(self):
        for table in (*TABLES, lined(60, 7, 11, 3)):
            self.assertEqual(keys(table, ()), tuple(range(len(table))))

    def test_just_one_key_by_a_pair(self):
        rng = random.Random(2)
        for table in (*TABLES, *SMALL_TABLES, shuffled(rng, 60)):
            for key in range(len(table)):
                word = some_word(rng, table)
                self.assertEqual(self.check(table, ((word, ciphered_by_hand(table, key, word)),)), (key,))

    def test_no_key(self):
        # The second thing comes out of the first one, whatever the key.
        self.assertEqual(keys(T, (((0, 0), (0, 1)),)), ())
        self.assertEqual(keys(T, (((0, 0), (0, 0)),)), (0,))
        # Each of these has a key, but not the same one.
        self.assertEqual(keys(T, (((0,), (0,)), ((0,), (1,)))), ())

    def test_short_words_in_small_tables(self):
        counts = {0: 0, 1: 0}
        for table in SMALL_TABLES:
            words = list(itertools.product(range(len(table)), repeat=2))
            for pair in itertools.product(words, repeat=2):
                counts[len(self.check(table, (pair,)))] += 1
        self.assertGreater(min(counts.values()), 100)

    def test_several_pairs_of_several_lengths(self):
        rng = random.Random(3)
        counts = [0, 0]
        for table in (T, shuffled(rng, 8), shuffled(rng, 60)):
            for many in (2, 3, 10, 11):
                key = rng.randrange(len(table))
                words = [some_word(rng, table) for _ in range(many)]
                pairs = tuple((word, ciphered_by_hand(table, key, word)) for word in words)
                self.assertEqual(self.check(table, pairs), (key,))
                for number in range(many):
                    word, secret = pairs[number]
                    place = rng.randrange(len(secret))
                    wrong = (*secret[:place], (secret[place] + 1) % len(table), *secret[place + 1:])
                    altered = (*pairs[:number], (word, wrong), *pairs[number + 1:])
                    counts[len(self.check(table, altered))] += 1
        self.assertGreater(counts[0], 50)

    def test_the_greatest_many_times(self):
        table = lined(60, 7, 11, 3)
        words = [tuple((k * thing + 1) % 60 for thing in range(MAX_WORD)) for k in range(10)]
        pairs = tuple((word, ciphered_by_hand(table, 59, word)) for word in words)
        for _ in range(20):
            self.assertEqual(keys(table, pairs), (59,))


if __name__ == "__main__":
    unittest.main()
