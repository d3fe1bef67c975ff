import random
import unittest

from solvedbothsides.errors import BadFacts, BadFormula, BadText, TableError
from solvedbothsides.facts import clash, facts_error
from solvedbothsides.formulas import formula_error
from solvedbothsides.texts import facts_text, formula_text, read_facts, read_formula
from helper import BIG, F, LONG_CHAINS, ODD, OTHER_BIG, chain, exact, formulas, many_facts, paths, some_formula

WITHOUT = (3, ((0, 0, 1), (0, 2, 1)), ((0, 2),))
EIGHT = (8, LONG_CHAINS[2][0], ((0, 7), (1, 7), (2, 7), (3, 7), (4, 7), (5, 7)))
NO_STRINGS = [value for value in ODD if not isinstance(value, str)] + [("with", 0, 1), ["0"], ("0",), 7]


def text_by_hand(formula):
    if isinstance(formula, int):
        return str(formula)
    return f"{formula[0]} {text_by_hand(formula[1])} {text_by_hand(formula[2])}"


def spread_out(rng, text):
    """Return the text with more blanks between its words, ahead of them and behind them."""
    lines = []
    for line in text.split("\n"):
        made = " " * rng.randint(0, 3)
        for word in line.split(" "):
            made += word + " " * rng.randint(1, 3)
        lines.append(made)
    return "\n".join(lines)


class Refused(unittest.TestCase):
    def refused(self, error, fields, function, *arguments):
        """Check that a call raises just this error, with these fields in their order."""
        for _ in range(2):
            with self.assertRaises(error) as caught:
                function(*arguments)
            self.assertIs(type(caught.exception), error)
            self.assertIsInstance(caught.exception, TableError)
            self.assertEqual(exact(tuple(vars(caught.exception).values())), exact(fields), arguments)


class FormulaText(unittest.TestCase):
    def test_examples(self):
        self.assertEqual(formula_text(("with", 0, ("behind", 0, 1))), "with 0 behind 0 1")
        self.assertEqual(formula_text(formula=("ahead", ("with", 2, 1), 0)), "ahead with 2 1 0")
        self.assertEqual(formula_text(0), "0")
        self.assertEqual(formula_text(7), "7")

    def test_many(self):
        rng = random.Random(1)
        found = [formula for size in (1, 3, 5) for formula in formulas(2, size)]
        found += [some_formula(rng, 8, 15) for _ in range(50)] + [BIG, OTHER_BIG, chain(15), chain(15, "behind", 7, 2)]
        for formula in found:
            made = formula_text(formula)
            self.assertEqual(made, text_by_hand(formula))
            self.assertEqual(exact(read_formula(8, made)), exact(formula))

    def test_somewhat_beyond(self):
        self.assertEqual(formula_text(("with", 12, 345)), "with 12 345")
        self.assertEqual(formula_text(chain(21)), "with " * 10 + "0 " * 10 + "0")


class FactsText(unittest.TestCase):
    def test_examples(self):
        self.assertEqual(facts_text(F), "names 4\n0 with 1 gives 2\n0 with 3 gives 2\n0 unlike 1")
        self.assertEqual(facts_text(facts=(1, (), ())), "names 1")
        self.assertEqual(facts_text((2, ((0, 1, 1),), ())), "names 2\n0 with 1 gives 1")
        self.assertEqual(facts_text((8, (), ((0, 7), (6, 7)))), "names 8\n0 unlike 7\n6 unlike 7")

    def test_facts_without_a_world(self):
        self.assertIsNotNone(clash(WITHOUT))
        self.assertEqual(facts_text(WITHOUT), "names 3\n0 with 0 gives 1\n0 with 2 gives 1\n0 unlike 2")

    def test_read_back(self):
        rng = random.Random(2)
        for facts in many_facts(2, 150) + [F, EIGHT, WITHOUT]:
            made = facts_text(facts)
            self.assertEqual(len(made.split("\n")), 1 + len(facts[1]) + len(facts[2]))
            self.assertEqual(exact(read_facts(made)), exact(facts))
            self.assertEqual(read_facts(spread_out(rng, made)), facts)


class ReadFormula(Refused):
    def test_examples(self):
        self.assertEqual(read_formula(2, " ahead 0  1"), ("ahead", 0, 1))
        self.assertEqual(read_formula(names=2, value=" ahead 0  1"), ("ahead", 0, 1))
        self.assertEqual(read_formula(1, "0"), 0)

    def test_more_blanks(self):
        rng = random.Random(3)
        for _ in range(100):
            formula = some_formula(rng, 8, rng.choice((1, 3, 5, 15)))
            self.assertEqual(exact(read_formula(8, spread_out(rng, formula_text(formula)))), exact(formula))

    def test_no_string(self):
        for value in NO_STRINGS:
            self.refused(BadText, (None, None), read_formula, 2, value)

    def test_too_few_words(self):
        for text, number in (
            ("", 0), (" ", 0), ("   ", 0), ("with", 1), ("with 0", 2), (" with  0 ", 2), ("with with", 2),
            ("with with 0 1", 4), ("ahead behind 0 with 1", 5), ("behind 0 ahead 1", 4),
        ):
            self.refused(BadText, (0, number), read_formula, 2, text)

    def test_one_too_many(self):
        for text, number in (
            ("0 0", 1), ("0 with", 1), ("with 0 1 0", 3), ("with 0 1 with 0 1", 3), ("behind ahead 0 0 1 1 0", 5),
            ("0 1 2 3", 1),
        ):
            self.refused(BadText, (0, number), read_formula, 2, text)

    def test_no_word_of_a_formula(self):
        for word in (
            "x", "With", "WITH", "withe", "wit", "is", "unlike", "gives", "names", "-1", "+1", "1.0", "1_0", "0x1",
            "00", "01", "007", "10000", "12345", "00001", "0000", "1" * 60, "1,", "(0", "None", "True", "\n", "0\n",
            "\n0", "with\n", "0\n1", "~", "_", "''",
        ):
            self.refused(BadText, (0, 0), read_formula, 2, word)
            self.refused(BadText, (0, 1), read_formula, 2, f" with  {word} 0")
            self.refused(BadText, (0, 2), read_formula, 2, f"with 0 {word}")
            self.refused(BadText, (0, 3), read_formula, 2, f"with 0 0 {word}")

    def test_a_line_feed_is_no_blank(self):
        self.refused(BadText, (0, 1), read_formula, 2, "with 0\n1")
        self.refused(BadText, (0, 2), read_formula, 2, "with 0 1\n")
        self.refused(BadText, (0, 0), read_formula, 2, "\nwith 0 1")
        self.refused(BadText, (0, 3), read_formula, 2, "with 0 1 \n")

    def test_names(self):
        for names in range(1, 9):
            for name in range(12):
                if name < names:
                    self.assertEqual(read_formula(names, f"with {name} 0"), ("with", name, 0))
                else:
                    self.refused(BadFormula, ("name",), read_formula, names, f"with {name} 0")
                    self.refused(BadFormula, ("name",), read_formula, names, f"with 0 {name}")
                    self.refused(BadFormula, ("name",), read_formula, names, str(name))
        for name in ("8", "10", "100", "9999", "1000"):
            self.refused(BadFormula, ("name",), read_formula, 8, name)

    def test_size(self):
        for size in range(1, 30, 2):
            for formula in (chain(size), chain(size, "ahead", 1, 2)):
                if size <= 15:
                    self.assertEqual(read_formula(2, text_by_hand(formula)), formula)
                else:
                    self.refused(BadFormula, ("size",), read_formula, 2, text_by_hand(formula))

    def test_the_first_fault_is_told(self):
        self.refused(BadText, (0, 1), read_formula, 2, "with x x")
        self.refused(BadText, (0, 1), read_formula, 2, "with x")
        self.refused(BadText, (0, 1), read_formula, 2, "0 x")
        self.refused(BadText, (0, 1), read_formula, 2, "0 0 x")
        # What no word may be comes ahead of names, wherever it stands, and names come ahead of the size.
        self.refused(BadText, (0, 2), read_formula, 2, "with 9 x")
        self.refused(BadText, (0, 2), read_formula, 2, "with 9")
        self.refused(BadText, (0, 1), read_formula, 2, "9 0")
        self.refused(BadText, (0, 17), read_formula, 2, text_by_hand(chain(17)) + " 0")
        self.refused(BadText, (0, 18), read_formula, 2, "with " + text_by_hand(chain(17)))
        self.refused(BadFormula, ("name",), read_formula, 2, text_by_hand(chain(17, "with", 2)))
        self.refused(BadFormula, ("name",), read_formula, 2, "with " * 9 + "0 " * 9 + "2")

    def test_the_longest(self):
        self.refused(BadText, (0, 400), read_formula, 2, "with " * 400)
        self.refused(BadText, (0, 1), read_formula, 2, "0 " * 1000)
        self.refused(BadText, (0, 0), read_formula, 2, " " * 1000 + "x" * 1000)
        self.refused(BadText, (0, 0), read_formula, 2, " " * 2000 + "9" * 2000)
        self.refused(BadFormula, ("size",), read_formula, 2, "with " * 285 + "0 " * 286)
        self.refused(BadFormula, ("size",), read_formula, 2, "ahead 0 " * 200 + "1")
        self.assertEqual(read_formula(2, " " * 900 + "with" + " " * 900 + "1 0" + " " * 190), ("with", 1, 0))

    def test_as_formula_error_tells(self):
        rng = random.Random(4)
        words = {None: 0, "name": 0, "size": 0}
        for _ in range(400):
            formula = some_formula(rng, 5, rng.choice((1, 3, 5, 15, 17, 19)))
            word = formula_error(4, formula)
            words[word] += 1
            if word is None:
                self.assertEqual(read_formula(4, text_by_hand(formula)), formula)
            else:
                self.refused(BadFormula, (word,), read_formula, 4, text_by_hand(formula))
        self.assertGreater(min(words.values()), 4, words)


class ReadFacts(Refused):
    def test_examples(self):
        self.assertEqual(read_facts(facts_text(F)), F)
        self.assertEqual(read_facts(value="names 1"), (1, (), ()))

    def test_lines_in_whatever_order(self):
        text = "names 4\n0 unlike 1\n0 with 1 gives 2\n1 unlike 2\n0 with 3 gives 2"
        self.assertEqual(read_facts(text), (4, F[1], ((0, 1), (1, 2))))
        self.assertEqual(read_facts("names  4 \n 0   unlike 1\n 0 with 1  gives 2 \n0 with 3 gives 2"), F)

    def test_no_string(self):
        for value in NO_STRINGS:
            self.refused(BadText, (None, None), read_facts, value)

    def test_the_line_of_names(self):
        for line, number in (
            ("", 0), ("  ", 0), ("names", 1), (" names ", 1), ("names x", 1), ("names 04", 1), ("names 4 4", 2),
            ("names 4 names", 2), ("Names 4", 0), ("name 4", 0), ("4", 0), ("4 names", 0), ("names -1", 1),
            ("names 10000", 1), ("0 with 1 gives 2", 0), ("0 unlike 1", 0), ("names 4.", 1), ("x y z", 0),
            ("names x y", 1), ("names names 4", 1),
        ):
            for behind in ("", "\n0 with 0 gives 0", "\nx", "\n"):
                self.refused(BadText, (0, number), read_facts, line + behind)

    def test_lines_of_entries(self):
        for line, number in (
            ("", 0), ("   ", 0), ("0", 1), ("0 with", 2), ("0 with 1", 3), ("0 with 1 gives", 4),
            ("0 with 1 gives 2 3", 5), ("0 with 1 gives 2 gives", 5), ("x with 1 gives 2", 0), ("0 x 1 gives 2", 1),
            ("0 with x gives 2", 2), ("0 with 1 x 2", 3), ("0 with 1 gives x", 4), ("with 0 1 gives 2", 0),
            ("0 gives 2", 1), ("00 with 1 gives 2", 0), ("0 with 01 gives 2", 2), ("0 with 1 gives 12345", 4),
            ("0 WITH 1 gives 2", 1), ("0 behind 1 gives 2", 1), ("names 4", 0), ("unlike 0 1", 0), ("0 0 unlike", 1),
            ("unlike", 0), ("x", 0), ("0 Unlike 1", 1), ("-1 with 1 gives 2", 0), ("0 1", 1),
        ):
            for ahead, place in (("names 4\n", 1), ("names 4\n0 unlike 1\n1 with 1 gives 1\n", 3)):
                self.refused(BadText, (place, number), read_facts, ahead + line)
                self.refused(BadText, (place, number), read_facts, ahead + line + "\n0 x")

    def test_lines_of_pairs(self):
        for line, number in (
            ("0 unlike", 2), ("0 unlike x", 2), ("0 unlike 1 2", 3), ("x unlike 1", 0), ("x unlike", 0),
            ("unlike unlike 1", 0), ("0 unlike unlike", 2), ("with unlike 1 gives 2", 0), ("0 unlike 1 gives 2", 3),
            ("0 unlike 01", 2), ("names unlike", 0), ("0 unlike 10000", 2),
        ):
            for ahead, place in (("names 4\n", 1), ("names 4\n0 unlike 1\n1 with 1 gives 1\n", 3)):
                self.refused(BadText, (place, number), read_facts, ahead + line)

    def test_the_first_line_that_is_not_right(self):
        self.refused(BadText, (1, 0), read_facts, "names 4\n")
        self.refused(BadText, (2, 0), read_facts, "names 4\n0 unlike 1\n")
        self.refused(BadText, (1, 0), read_facts, "names 4\n\n0 unlike 1")
        self.refused(BadText, (2, 1), read_facts, "names 4\n0 unlike 1\n0 x 1\nx")
        self.refused(BadText, (0, 0), read_facts, "\nnames 4")
        # What facts_error tells comes behind all lines.
        self.refused(BadText, (2, 0), read_facts, "names 99\n9 unlike 0\nx")
        self.refused(BadText, (3, 4), read_facts, "names 2\n1 unlike 0\n5 with 5 gives 5\n0 with 0 gives")

    def test_what_facts_error_tells(self):
        for text, number, word in (
            ("names 0", None, "names"), ("names 9", None, "names"), ("names 9999\n0 with 0 gives 0", None, "names"),
            ("names 2\n0 with 0 gives 2", 0, "entry"), ("names 2\n0 with 9999 gives 0", 0, "entry"),
            ("names 2\n0 with 1 gives 0\n0 with 0 gives 0", 1, "order"),
            ("names 2\n0 with 0 gives 0\n0 with 0 gives 0", 1, "order"),
            ("names 2\n1 unlike 0", 0, "pair"), ("names 2\n0 unlike 0", 0, "pair"), ("names 2\n0 unlike 2", 0, "pair"),
            ("names 3\n0 unlike 2\n0 unlike 1", 1, "order"), ("names 3\n0 unlike 1\n0 unlike 1", 1, "order"),
            ("names 3\n0 unlike 1\n1 unlike 1", 1, "pair"),
            # Entries come ahead of pairs, wherever their lines stand.
            ("names 2\n1 unlike 0\n0 with 0 gives 2", 0, "entry"), ("names 0\n0 unlike 0", None, "names"),
            ("names 2\n1 unlike 0\n0 with 1 gives 0\n1 unlike 0\n0 with 0 gives 0", 1, "order"),
        ):
            self.refused(BadFacts, (number, word), read_facts, text)

    def test_too_many(self):
        entries = [f"{x} with {y} gives 0" for x in range(4) for y in range(4)]
        pairs = [f"{x} unlike {y}" for x in range(5) for y in range(x + 1, 5)]
        for many in range(8, 14):
            text = "\n".join(["names 5"] + entries[:many])
            if many <= 10:
                self.assertEqual(len(read_facts(text)[1]), many)
            else:
                self.refused(BadFacts, (None, "entries"), read_facts, text)
        for many in range(4, 9):
            text = "\n".join(["names 5"] + pairs[:many])
            if many <= 6:
                self.assertEqual(len(read_facts(text)[2]), many)
            else:
                self.refused(BadFacts, (None, "unlike"), read_facts, text)
        text = "names 5" + "\n0 unlike 0" * 7 + "\n9 with 9 gives 9" * 11
        self.refused(BadFacts, (None, "entries"), read_facts, text)

    def test_facts_without_a_world(self):
        self.assertEqual(read_facts(facts_text(WITHOUT)), WITHOUT)

    def test_the_longest(self):
        text = "names 8" + "\n0 with 0 gives 0" * 110
        self.refused(BadFacts, (None, "entries"), read_facts, text)
        self.refused(BadText, (0, 0), read_facts, "\n" * 2000)
        self.refused(BadText, (1, 0), read_facts, "names 4" + "\n" * 1990)
        self.assertEqual(read_facts(" " * 900 + "names" + " " * 900 + "3"), (3, (), ()))

    def test_as_facts_error_tells(self):
        rng = random.Random(5)
        counts = {"right": 0, "wrong": 0}
        for facts in many_facts(5, 100):
            entries = [f"{x} with {y} gives {z}" for x, y, z in facts[1]]
            pairs = [f"{x} unlike {y}" for x, y in facts[2]]
            rng.shuffle(entries)
            value = (
                facts[0],
                tuple(tuple(int(word) for word in line.split()[::2]) for line in entries),
                facts[2],
            )
            text = "\n".join([f"names {facts[0]}"] + pairs + entries)
            error = facts_error(value)
            counts["right" if error is None else "wrong"] += 1
            if error is None:
                self.assertEqual(read_facts(text), value)
            else:
                self.refused(BadFacts, error, read_facts, text)
        self.assertGreater(min(counts.values()), 10, counts)


class Sizes(unittest.TestCase):
    def test_what_the_tests_take_for_great_is_so(self):
        self.assertEqual([len(paths(formula)) for formula in (BIG, OTHER_BIG, chain(15))], [15, 15, 15])


if __name__ == "__main__":
    unittest.main()
