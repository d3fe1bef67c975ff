"""A desk that answers lines about a book, and keeps what was said last."""

from solvedbothsides.answers import answer_to
from solvedbothsides.errors import BadFacts, BadFormula, BadText, Full, NoClaim, NoEntry, NoPair, NoTable, NothingToUndo

MAX_HISTORY = 10


class Desk:
    """A book, and the last lines that were said here with their answers."""

    def __init__(self, book):
        self._book = book
        self._history = ()

    @property
    def history(self):
        """The last pairs of a line and its answer, None being in the place of what was no string."""
        return self._history

    def say(self, line):
        """Return the answer to a line."""
        said = line if isinstance(line, str) else None
        answer = "what" if said is None else answer_or_refusal(self._book, said)
        self._history = (*self._history, (said, answer))[-MAX_HISTORY:]
        return answer


def answer_or_refusal(book, line):
    """Return the answer to a line that is a string, also where the line is refused, or the call that it asks for."""
    # These are all the errors that the calls behind a line raise; BadText is only raised for words that are no line.
    try:
        return answer_to(book, line)
    except BadText:
        return "what"
    except BadFacts:
        return "no BadFacts"
    except BadFormula:
        return "no BadFormula"
    except Full:
        return "no Full"
    except NoClaim:
        return "no NoClaim"
    except NoEntry:
        return "no NoEntry"
    except NoPair:
        return "no NoPair"
    except NoTable:
        return "no NoTable"
    except NothingToUndo:
        return "no NothingToUndo"
