import itertools
import random
import unittest

from solvedbothsides.books import Book
from solvedbothsides.desks import Desk
from solvedbothsides.errors import BadFormula, BadText, NoClaim, NoEntry, NoPair, TableError
from solvedbothsides.facts import forcing, merged
from solvedbothsides.plain import plain
from solvedbothsides.texts import facts_text, formula_text, read_formula
from solvedbothsides.worlds import verdict
from helper import BIG, F, ODD, OTHER_BIG, chain, exact, is_plain_value, many_facts, some_formula

NO_STRINGS = [value for value in ODD if not isinstance(value, str)] + [["undo"], ("undo",), b"undo", Book(F)]
LARGE = "with " * 8 + "0 " * 9


class DeskCase(unittest.TestCase):
    def says(self, desk, *pairs):
        """Check the answers to several lines, in their order."""
        for line, answer in pairs:
            self.assertEqual(exact(desk.say(line)), exact(answer), line)

    def says_what(self, desk, *lines):
        self.says(desk, *[(line, "what") for line in lines])


class Lines(DeskCase):
    def test_examples(self):
        desk = Desk(Book(F))
        lines = ["verdict with 1 0 is 2", "plain with 3 0", "why 1 3", "note 0 0 2", "claim 0 is with", "merged",
                 "strike 7"]
        self.assertEqual(
            [desk.say(line) for line in lines],
            ["open", "with 1 0", "0 1", "no NoTable", "what", "0 1 2 1", "no NoEntry"],
        )

    def test_edits(self):
        book = Book(F)
        desk = Desk(book=book)
        self.says(
            desk, ("note 0 2 0", "ok 1"), ("strike 1", "ok 2"), ("part 1 3", "no NoTable"), ("part 2 3", "ok 3"),
            ("drop 0", "ok 4"), ("claim with 1 0 is behind 0 1", "ok 5"), ("claim 0 is 0", "ok 6"),
            ("forget 0", "ok 7"), ("undo", "ok 6"), ("undo", "ok 5"),
        )
        self.assertEqual(book.facts, (4, ((0, 1, 2), (0, 3, 2)), ((2, 3),)))
        self.assertEqual(book.claims, ((("with", 1, 0), ("behind", 0, 1)),))
        self.assertEqual(book.version, 5)

    def test_line_by_name(self):
        self.assertEqual(Desk(Book(F)).say(line="undo"), "no NothingToUndo")

    def test_answers_about_the_facts(self):
        self.says(
            Desk(Book(F)), ("verdict 1 is 3", "always"), ("verdict 0 is 1", "never"), ("verdict 0 is 2", "open"),
            ("verdict with 0 behind 0 1 is 3", "always"), ("plain 3", "1"), ("plain with ahead 3 2 1", "2"),
            ("plain behind 1 with 3 0", "0"), ("plain ahead 0 1", "ahead 0 1"), ("why 0 0", "nothing"),
            ("why 3 1", "0 1"), ("why 0 1", "unlike"), ("why 0 2", "unlike"), ("merged", "0 1 2 1"),
            ("text", "names 4 / 0 with 1 gives 2 / 0 with 3 gives 2 / 0 unlike 1"),
        )
        self.says(Desk(Book((1, (), ()))), ("text", "names 1"), ("merged", "0"), ("why 0 0", "nothing"))

    def test_told_and_changed(self):
        desk = Desk(Book(F))
        self.says(
            desk, ("told", "nothing"), ("changed", "nothing"), ("claim with 1 0 is 2", "ok 1"), ("told", "open"),
            ("changed", "0"), ("claim 1 is 3", "ok 2"), ("claim with 1 0 is 2", "ok 3"), ("told", "open always open"),
            ("changed", "2"), ("note 1 0 2", "ok 4"), ("told", "always always always"), ("changed", "0 2"),
            ("note 2 2 2", "ok 5"), ("changed", "nothing"), ("claim 0 is 1", "ok 6"),
            ("told", "always always always never"), ("changed", "3"),
        )

    def test_blanks(self):
        book = Book(F)
        desk = Desk(book)
        self.says(
            desk, ("  note   0  2 0 ", "ok 1"), (" undo  ", "ok 0"), ("claim   with  1 0   is  2", "ok 1"),
            (" told", "open"), ("verdict 1  is 3 ", "always"), ("   why  1   3", "0 1"), ("merged   ", "0 1 2 1"),
        )
        self.assertEqual(desk.history[0], ("  note   0  2 0 ", "ok 1"))

    def test_a_line_feed_is_no_blank(self):
        desk = Desk(Book(F))
        self.says_what(
            desk, "note 0 2\n0", "note\n0 2 0", "note 0 2 0\n", "\nundo", "undo\n", "undo \n", "told\n", "merged\n",
            "verdict 1 is\n3", "verdict 1 is 3\n", "plain 3\n", "text\ntext", "\n", "why 1\n3",
        )
        self.assertEqual(desk.say("changed"), "nothing")


class What(DeskCase):
    def test_no_string(self):
        desk = Desk(Book(F))
        for value in NO_STRINGS:
            self.assertEqual(desk.say(value), "what")
            self.assertEqual(desk.history[-1], (None, "what"))

    def test_no_words_or_unknown_ones(self):
        self.says_what(
            Desk(Book(F)), "", " ", "     ", "x", "Note 0 2 0", "NOTE 0 2 0", "notes 0 2 0", "0", "0 with 1 gives 2",
            "names 4", "is", "facts", "claims", "version", "history", "say undo", "clash", "same 0 is 1", "names",
            "note0 2 0", "undo.", "what", "ok 1", "with 0 1", "tried", "~", "/", "append", "keys",
        )

    def test_numbers(self):
        desk = Desk(Book(F))
        counts = {"note": 3, "strike": 1, "part": 2, "drop": 1, "forget": 1, "why": 2, "undo": 0, "merged": 0,
                  "told": 0, "changed": 0, "text": 0}
        for word, right in counts.items():
            for many in range(5):
                if many != right:
                    self.says_what(desk, " ".join([word] + ["0"] * many))
            for place in range(right):
                for wrong in ("x", "-1", "00", "01", "10000", "1.0", "+1", "is", "with", "None", "(0)", "0,", "12345"):
                    numbers = ["0"] * right
                    numbers[place] = wrong
                    self.says_what(desk, " ".join([word] + numbers))
        self.assertEqual(desk.say("told"), "nothing")

    def test_great_numbers_are_numbers(self):
        desk = Desk(Book(F))
        self.says(
            desk, ("note 9999 0 0", "no BadFacts"), ("strike 9999", "no NoEntry"), ("part 0 1000", "no BadFacts"),
            ("drop 9999", "no NoPair"), ("forget 9999", "no NoClaim"), ("why 9999 0", "no BadFormula"),
            ("claim 9999 is 0", "no BadFormula"), ("plain 9999", "no BadFormula"),
        )

    def test_just_one_is(self):
        desk = Desk(Book(F))
        for word in ("claim", "verdict"):
            self.says_what(
                desk, word, f"{word} is", f"{word} 0", f"{word} 0 1", f"{word} 0 is", f"{word} is 0",
                f"{word} 0 is 1 is", f"{word} 0 is 1 is 2", f"{word} is 0 is 1", f"{word} 0 is is 1",
                f"{word} with 0 1 with 0 1",
                f"{word} 0 Is 1", f"{word} 0 =  1", f"{word} with 0 is 1", f"{word} 0 1 is 2", f"{word} 0 is 1 2",
                f"{word} x is 0", f"{word} 0 is x", f"{word} 00 is 0", f"{word} 0 is 10000", f"{word} is 0 1",
                # That there is one more comes ahead of what is wrong with the names.
                f"{word} 9 is 0 is 0", f"{word} 9 0", f"{word} 9",
            )

    def test_plain_is_of_one_formula(self):
        self.says_what(
            Desk(Book(F)), "plain", "plain with", "plain with 0", "plain 0 0", "plain x", "plain 0 is 1",
            "plain with 0 is", "plain 00", "plain 9 9", "plain 9 x", "plain " + LARGE + "0",
        )

    def test_why_is_of_two_numbers(self):
        desk = Desk(Book(F))
        self.says_what(
            desk, "why", "why 0", "why 9", "why 0 1 2", "why 9 9 9", "why 9 x", "why x 9", "why 9 01", "why 0 is 1",
            "why with 0 1", "why 10000 0",
        )
        self.says(
            desk, ("why 9 0", "no BadFormula"), ("why 0 9", "no BadFormula"), ("why 9 9", "no BadFormula"),
            ("why 4 4", "no BadFormula"), ("why 3 4", "no BadFormula"), ("why 3 3", "nothing"),
        )


class No(DeskCase):
    def test_each_error(self):
        desk = Desk(Book(F))
        self.says(
            desk, ("undo", "no NothingToUndo"), ("strike 2", "no NoEntry"), ("drop 1", "no NoPair"),
            ("forget 0", "no NoClaim"), ("note 0 1 2", "no BadFacts"), ("note 0 1 4", "no BadFacts"),
            ("part 0 1", "no BadFacts"), ("part 1 0", "no BadFacts"), ("part 0 4", "no BadFacts"),
            ("note 0 0 2", "no NoTable"), ("part 1 3", "no NoTable"), ("claim 4 is 0", "no BadFormula"),
            ("verdict 0 is 4", "no BadFormula"), ("plain 4", "no BadFormula"), ("changed", "nothing"),
            ("told", "nothing"),
        )
        for number in range(4):
            self.assertEqual(desk.say("claim 0 is 0"), f"ok {number + 1}")
        self.assertEqual(desk.say("claim 0 is 0"), "no BadFormula")

    def test_full(self):
        desk = Desk(Book(F))
        for number in range(10):
            self.says(desk, ("part 0 2", f"ok {2 * number + 1}"), ("drop 1", f"ok {2 * number + 2}"))
        self.says(
            desk, ("note 0 0 2", "no Full"), ("note 9 9 9", "no Full"), ("strike 9", "no Full"),
            ("part 9 9", "no Full"), ("drop 9", "no Full"), ("claim 0 is 0", "no Full"), ("forget 9", "no Full"),
            # What the words are refused for comes ahead of what the call would raise.
            ("claim 9 is 0", "no BadFormula"), ("claim 0 is 9", "no BadFormula"), ("claim x is 0", "what"),
            ("claim 0 is with", "what"), ("note 0 0", "what"), ("undo", "ok 19"), ("claim 0 is 0", "ok 20"),
        )

    def test_too_many_entries_and_pairs(self):
        desk = Desk(Book((8, tuple((x, 0, x) for x in range(8)) + (), ())))
        self.says(desk, ("note 0 1 1", "ok 1"), ("note 0 2 2", "ok 2"), ("note 0 3 3", "no BadFacts"))
        desk = Desk(Book((8, (), tuple((0, x) for x in range(1, 7)))))
        self.says(desk, ("part 0 7", "no BadFacts"), ("drop 0", "ok 1"), ("part 0 7", "ok 2"))

    def test_the_first_formula_as_a_whole_ahead(self):
        desk = Desk(Book(F))
        for word in ("claim", "verdict"):
            self.says(
                desk, (f"{word} 9 is x", "no BadFormula"), (f"{word} x is 9", "what"),
                (f"{word} 9 is", "no BadFormula"), (f"{word} with 9 is 9", "what"),
                (f"{word} {LARGE} is x", "no BadFormula"), (f"{word} {LARGE} is 0 0", "no BadFormula"),
                (f"{word} 0 is {LARGE}", "no BadFormula"),
                (f"{word} 0 is {LARGE} 0", "what"), (f"{word} {LARGE} 0 is {LARGE}", "what"), (f"{word} is 9", "what"),
            )

    def test_refused_edits_change_nothing(self):
        book = Book(F)
        book.claim(0, 1)
        desk = Desk(book)
        before = exact((book.facts, book.claims, book.version, book.changed, book.told()))
        for line in (
            "note 0 0 2", "note 0 1 2", "strike 2", "part 1 3", "drop 1", "claim 9 is 0", "forget 1", "x", None,
        ):
            desk.say(line)
            self.assertEqual(exact((book.facts, book.claims, book.version, book.changed, book.told())), before)


class OneBook(DeskCase):
    def test_works_on_this_very_book(self):
        book = Book(F)
        desk = Desk(book)
        desk.say("note 1 0 2")
        self.assertEqual(book.facts[1], ((0, 1, 2), (0, 3, 2), (1, 0, 2)))
        book.claim(0, 0)
        self.says(desk, ("told", "always"), ("undo", "ok 1"), ("undo", "ok 0"), ("undo", "no NothingToUndo"))
        self.assertEqual(book, Book(F))

    def test_two_desks_on_one_book(self):
        book = Book(F)
        one, other = Desk(book), Desk(book)
        self.says(one, ("claim with 1 0 is 2", "ok 1"))
        self.says(other, ("told", "open"), ("note 1 0 2", "ok 2"), ("changed", "0"))
        self.says(one, ("told", "always"), ("changed", "0"), ("undo", "ok 1"))
        self.says(other, ("undo", "ok 0"), ("told", "nothing"))
        self.assertEqual(
            one.history,
            (("claim with 1 0 is 2", "ok 1"), ("told", "always"), ("changed", "0"), ("undo", "ok 1")),
        )
        self.assertEqual([line for line, _ in other.history], ["told", "note 1 0 2", "changed", "undo", "told"])

    def test_two_books(self):
        one, other = Desk(Book(F)), Desk(Book(F))
        self.says(one, ("strike 0", "ok 1"))
        self.says(other, ("undo", "no NothingToUndo"), ("text", facts_text(F).replace("\n", " / ")))

    def test_within_tried(self):
        book = Book(F)
        desk = Desk(book)

        def function(given):
            return [desk.say("strike 0"), desk.say("told"), Desk(given).say("undo"), desk.say("undo")]

        self.assertEqual(book.tried(function), ["ok 1", "nothing", "ok 0", "no NothingToUndo"])
        self.assertEqual(book.tried(lambda given: desk.say("part 0 2")), "ok 1")
        # The book alone is put back.
        self.assertEqual(book.version, 0)
        self.assertEqual([line for line, _ in desk.history], ["strike 0", "told", "undo", "part 0 2"])

    def test_the_facts_of_each_book(self):
        for facts in many_facts(1, 40, only_with_world=True):
            rng = random.Random(str(facts))
            desk = Desk(Book(facts))
            one, other = some_formula(rng, facts[0], 5), some_formula(rng, facts[0], rng.choice((1, 3, 15)))
            self.says(
                desk,
                (f"verdict {formula_text(one)} is {formula_text(other)}", verdict(facts, one, other)),
                (f"plain {formula_text(one)}", formula_text(plain(facts, one))),
                ("merged", " ".join(str(name) for name in merged(facts))),
                ("text", facts_text(facts).replace("\n", " / ")),
            )
            for x, y in itertools.product(range(facts[0]), repeat=2):
                numbers = forcing(facts, x, y)
                right = "unlike" if numbers is None else " ".join(str(number) for number in numbers) or "nothing"
                self.says(desk, (f"why {x} {y}", right))


class History(DeskCase):
    def test_at_first(self):
        desk = Desk(Book(F))
        self.assertEqual(exact(desk.history), exact(()))

    def test_the_last_ten(self):
        desk = Desk(Book(F))
        said = []
        for number in range(25):
            line = (f"note {number % 4} 1 1", "merged", None, "", f"strike {number}", 7, "undo")[number % 7]
            answer = desk.say(line)
            said.append((line if isinstance(line, str) else None, answer))
            self.assertEqual(exact(desk.history), exact(tuple(said[-10:])))
            self.assertEqual(len(desk.history), min(number + 1, 10))
        self.assertTrue(is_plain_value(desk.history))

    def test_lines_as_they_are(self):
        desk = Desk(Book(F))
        for line in ("  undo ", "undo\n", "x" * 2000, " " * 2000, "", "merged"):
            answer = desk.say(line)
            self.assertEqual(desk.history[-1], (line, answer))

    def test_what_was_told_stays(self):
        desk = Desk(Book(F))
        desk.say("merged")
        kept = desk.history
        desk.say("told")
        self.assertEqual(kept, (("merged", "0 1 2 1"),))

    def test_can_only_be_read(self):
        desk = Desk(Book(F))
        desk.say("merged")
        self.assertRaises(AttributeError, setattr, desk, "history", ())
        self.assertRaises(AttributeError, delattr, desk, "history")
        self.assertEqual(desk.history, (("merged", "0 1 2 1"),))


def answer_by_hand(book, line):
    """Return the right answer to a line that is not answered "what", with calls of the book."""
    word, _, words = line.partition(" ")
    try:
        if word in ("claim", "verdict"):
            one, other = (read_formula(book.facts[0], text) for text in words.split("is"))
            return f"ok {book.claim(one, other)}" if word == "claim" else verdict(book.facts, one, other)
        if word == "plain":
            return formula_text(plain(book.facts, read_formula(book.facts[0], words)))
        if word in ("told", "changed"):
            found = book.told() if word == "told" else book.changed
            return " ".join(str(item) for item in found) if found else "nothing"
        return f"ok {getattr(book, word)(*(int(number) for number in words.split()))}"
    except BadText:
        return "what"
    except (TableError, NoClaim, NoEntry, NoPair) as error:
        return "no " + type(error).__name__


class AsTheBook(DeskCase):
    def line(self, rng, names):
        words = "note note strike part drop claim claim forget undo verdict plain told changed"
        word = rng.choice(words.split(" "))
        counts = {"note": 3, "part": 2, "strike": 1, "drop": 1, "forget": 1}
        if word in counts:
            several = [str(rng.randrange(min(names + 1, 3))) for _ in range(counts[word])]
            return " ".join([word] + several)
        if word in ("claim", "verdict", "plain"):
            texts = [formula_text(some_formula(rng, min(names + 1, 4), rng.choice((1, 3, 3, 17)))) for _ in range(2)]
            texts[0] = rng.choice((texts[0], texts[0], texts[0] + " 0"))
            return f"plain {texts[0]}" if word == "plain" else f"{word} {texts[0]} is {texts[1]}"
        return word

    def test_many_lines(self):
        seen = {}
        for number, facts in enumerate(many_facts(2, 40, only_with_world=True)):
            rng = random.Random(number)
            book, twin = Book(facts), Book(facts)
            desk = Desk(book)
            for _ in range(90):
                line = self.line(rng, facts[0])
                right = answer_by_hand(twin, line)
                self.says(desk, (line, right))
                self.assertEqual(book, twin)
                self.assertEqual((book.version, book.changed), (twin.version, twin.changed))
                kind = right if right.startswith("no ") else right.split(" ")[0]
                seen[kind] = seen.get(kind, 0) + 1
        for name in ("BadFacts", "BadFormula", "Full", "NoClaim", "NoEntry", "NoPair", "NoTable", "NothingToUndo"):
            self.assertGreater(seen["no " + name], 5, seen)
        self.assertGreater(min(seen["ok"], seen["what"], seen["nothing"], seen["always"]), 10, seen)

    def test_the_greatest_many_times(self):
        desk = Desk(Book((8, (), ())))
        one, other = formula_text(BIG), formula_text(OTHER_BIG)
        for _ in range(30):
            self.says(
                desk, (f"verdict {one} is {other}", "open"), (f"plain {one}", one), (f"claim {one} is {other}", "ok 1"),
                ("undo", "ok 0"), (f"verdict {formula_text(chain(17))} is 0", "no BadFormula"),
            )

    def test_names_of_errors(self):
        self.assertEqual(answer_by_hand(Book(F), "plain 9"), "no " + BadFormula.__name__)


if __name__ == "__main__":
    unittest.main()
