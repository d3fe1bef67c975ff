"""The sessions of the document, as they stand there."""

import doctest
import unittest

from helper import F, T

SESSIONS = r'''
>>> from solvedbothsides.facts import facts_error
>>> from solvedbothsides.formulas import formula_error, size
>>> from solvedbothsides.tables import ahead, behind, outcome, table_error, value
>>> from solvedbothsides.worlds import world_error
>>> size(("with", 0, ("behind", 0, 1))), formula_error(2, ("with", 0, 2)), formula_error(2, ("with", 0)), facts_error((2, ((1, 0, 0), (0, 0, 0)), ()))
(5, 'name', 'formula', (1, 'order'))
>>> table_error(T), outcome(T, 1, 2), behind(T, 1, 2), ahead(T, 1, 0), value(T, (0, 1, 2), ("with", 1, ("behind", 2, 0)))
(None, 2, 2, 1, 2)
>>> world_error(F, (T, (0, 1, 2, 1))), world_error(F, (T, (0, 1, 1, 1))), world_error(F, (T, (0, 0, 0, 0)))
(None, (0, 'entry'), (0, 'unlike'))

>>> from solvedbothsides.facts import clash, forcing, merged
>>> merged(F), forcing(F, 1, 3), forcing(F, 0, 2), clash(F), clash((3, ((0, 0, 1), (0, 2, 1)), ((0, 2),)))
((0, 1, 2, 1), (0, 1), None, None, (0, (0, 1)))

>>> from solvedbothsides.plain import is_road, plain, road, same
>>> plain(F, ("with", ("ahead", 3, 2), 1)), plain(F, ("behind", 1, ("with", 1, 0))), plain(F, ("with", 3, 0)), same(F, ("behind", 0, 2), 3)
(2, 0, ('with', 1, 0), True)
>>> is_road(F, ("behind", 0, 2), 3, (("behind", 0, 2), 3)), is_road(F, 1, 3, (1, 3)), road(F, 0, 1), is_road(F, 1, 2, (1, 2))
(True, True, None, False)

>>> from solvedbothsides.follow import alike, follows, spare
>>> from solvedbothsides.placing import placed, places
>>> from solvedbothsides.tables import holds
>>> from solvedbothsides.worlds import joined, parted, verdict, world, world_of
>>> verdict(F, ("with", 0, 0), 2), verdict(F, ("with", 1, 0), 2), verdict(F, ("with", 0, 3), 2), follows(F, (0, 2, 2)), joined(F, ("with", 0, 0), 2)
('never', 'open', 'always', 'open', None)
>>> world_error(F, parted(F, ("with", 1, 0), 2)), world_error(F, world(F)), len(world_of(F, 9)[0]), parted(F, 1, 3)
(None, None, 9, None)
>>> spare(F), spare((2, ((0, 0, 0), (0, 1, 1)), ())), alike(F, F), placed(F, T), places(F, T), holds(T, ("with", 0, 1), ("with", 1, 0))
((), (), True, (0, 1, 2, 1), 6, (0, 1))

>>> from solvedbothsides.blocks import begun_error, block_error, completed, grown, lacking
>>> lacking(((0, 1), (1, 0)), 3), completed(((0, 1), (1, 0)), 3), completed(((0, 1), (1, 2)), 3), block_error(3, ((0, 1), (0, 2)))
((2,), None, ((0, 1, 2), (1, 2, 0), (2, 0, 1)), (0, 'column'))
>>> table_error(grown(((0, None), (None, 0)), 5)), grown(((0, None), (None, 0)), 5)[1][1], begun_error(((0, 0), (None, 1)))
(None, 0, (0, 'row'))

>>> from solvedbothsides.formulas import solved
>>> from solvedbothsides.tables import kinds
>>> from solvedbothsides.turning import back, turned, turned_facts, turned_formula
>>> solved(("with", ("behind", 0, 1), 2), 1, 3), turned(T, (1, 0, 2)), turned_facts(F, (0, 2, 1))[1], turned_formula(("behind", 0, 1), (1, 0, 2))
(('with', 0, ('ahead', 2, 3)), ((0, 1, 2), (2, 0, 1), (1, 2, 0)), ((0, 2, 1), (0, 2, 3)), ('ahead', 0, 1))
>>> back((1, 2, 0)), kinds(T), kinds(((0, 1, 2), (1, 2, 0), (2, 0, 1)))
((2, 0, 1), (), ('grouped', 'neutral', 'turned'))

>>> from solvedbothsides.ciphers import ciphered, deciphered, keys
>>> from solvedbothsides.digits import is_marked, mark, missed
>>> mark(T, (1, 2)), is_marked(T, (1, 2, 0)), missed(T), ciphered(T, 1, (0, 2, 2)), deciphered(T, 1, (1, 2, 0)), keys(T, (((0, 2), (1, 2)),))
(0, True, (0, 0, 1), (1, 2, 0), (0, 2, 2), (1,))

>>> from solvedbothsides.books import Book
>>> book = Book(F)
>>> book.claim(("with", 1, 0), 2), book.told(), book.note(1, 0, 2), book.told(), book.changed, str(book), book[0], book.undo(), book.changed
(1, ('open',), 2, ('always',), (0,), '3 entries, 1 unlike, 1 claims, version 2', (0, 1, 2), 1, (0,))

>>> from solvedbothsides.books import Book
>>> from solvedbothsides.desks import Desk
>>> from solvedbothsides.texts import facts_text, formula_text, read_facts, read_formula
>>> facts_text(F), formula_text(("with", 0, ("behind", 0, 1))), read_formula(2, " ahead 0  1"), read_facts(facts_text(F)) == F
('names 4\n0 with 1 gives 2\n0 with 3 gives 2\n0 unlike 1', 'with 0 behind 0 1', ('ahead', 0, 1), True)
>>> desk = Desk(Book(F))
>>> lines = ["verdict with 1 0 is 2", "plain with 3 0", "why 1 3", "note 0 0 2", "claim 0 is with", "merged", "strike 7"]
>>> [desk.say(line) for line in lines]
['open', 'with 1 0', '0 1', 'no NoTable', 'what', '0 1 2 1', 'no NoEntry']

>>> from solvedbothsides.givens import givens_error, reasons, torn, verdict_given, world_given
>>> E = (2, (), ())
>>> G = ((("with", 0, 1), ("with", 1, 0)), (("with", 0, 0), 0))
>>> verdict_given(E, G, ("behind", 0, ("with", 1, 0)), 1), reasons(E, G, ("behind", 0, ("with", 1, 0)), 1), reasons(E, G, ("ahead", 0, 0), 0), verdict_given(E, G, 0, 1)
('always', (0,), (1,), 'open')
>>> torn((2, (), ((0, 1),)), ((("with", 0, 0), ("with", 0, 1)),)), world_given(E, G, 0, ("behind", 0, 0), False), givens_error(2, (("with", 0),))
((0,), None, (0, 'formula'))

>>> from solvedbothsides.least import least_size
>>> from solvedbothsides.spans import lone, makers, span
>>> least_size(F), least_size((2, ((0, 0, 0), (0, 1, 0)), ())), least_size((3, ((0, 0, 1), (1, 1, 0), (0, 1, 2)), ((0, 1), (0, 2), (1, 2)))), least_size((2, ((0, 0, 0), (1, 1, 1)), ((0, 1),)))
(2, 1, 3, 3)
>>> span(T, (0, 1)), lone(T), makers(T), lone(((0, 1), (1, 0))), makers(((0, 1), (1, 0)))
((0, 1, 2), ((0,), (0, 1, 2)), (1,), ((0,), (0, 1)), (1,))
'''


class Examples(unittest.TestCase):
    def test_sessions(self):
        examples = doctest.DocTestParser().get_doctest(SESSIONS, {"F": F, "T": T}, "sessions", None, 0)
        self.assertEqual(len(examples.examples), 49)
        runner = doctest.DocTestRunner()
        runner.run(examples)
        self.assertEqual(runner.failures, 0)


if __name__ == "__main__":
    unittest.main()
