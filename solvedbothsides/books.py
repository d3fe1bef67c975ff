"""A book that keeps facts, and claims about them, under edits."""

from solvedbothsides.bounds import MAX_CLAIMS, MAX_EDITS, MAX_ENTRIES, MAX_UNLIKE
from solvedbothsides.errors import BadFacts, BadFormula, Full, NoClaim, NoEntry, NoPair, NothingToUndo
from solvedbothsides.facts import is_entry, is_pair, refuse_clash, refuse_no_facts
from solvedbothsides.formulas import formula_error
from solvedbothsides.shapes import is_below
from solvedbothsides.worlds import verdict


class Book:
    """Facts and claims; each edit adds a page, and undo takes the last page away."""

    def __init__(self, facts):
        refuse_no_facts(facts)
        refuse_clash(facts)
        # A page has the facts, the claims, for each claim the version that it came with, and what verdict tells of it.
        self._pages = ((facts, (), (), ()),)
        self._changed = ()

    @property
    def facts(self):
        """The facts as they are now."""
        return self._pages[-1][0]

    @property
    def claims(self):
        """The pairs of formulas that are claimed."""
        return self._pages[-1][1]

    @property
    def version(self):
        """How many edits are in effect."""
        return len(self._pages) - 1

    @property
    def changed(self):
        """The numbers of the claims of which told tells something else than ahead of the last edit or undo."""
        return self._changed

    def told(self):
        """Return what verdict tells of each claim."""
        return self._pages[-1][3]

    def note(self, one, other, out):
        """Add the entry by which one with other gives out, and return the new version."""
        self._refuse_full()
        names, entries, unlike = self.facts
        entry = (one, other, out)
        if not is_entry(names, entry) or entry in entries:
            raise BadFacts(None, "entry")
        if len(entries) >= MAX_ENTRIES:
            raise BadFacts(None, "entries")
        return self._go_on((names, ascending(entries, entry), unlike), self.claims, self._versions())

    def strike(self, number):
        """Take the entry with this number away, and return the new version."""
        self._refuse_full()
        names, entries, unlike = self.facts
        if not is_below(number, len(entries)):
            raise NoEntry(number)
        return self._go_on((names, without(entries, number), unlike), self.claims, self._versions())

    def part(self, one, other):
        """Add the pair of unlike names one and other, and return the new version."""
        self._refuse_full()
        names, entries, unlike = self.facts
        pair = (one, other)
        if not is_pair(names, pair) or pair in unlike:
            raise BadFacts(None, "pair")
        if len(unlike) >= MAX_UNLIKE:
            raise BadFacts(None, "unlike")
        return self._go_on((names, entries, ascending(unlike, pair)), self.claims, self._versions())

    def drop(self, number):
        """Take the pair of unlike names with this number away, and return the new version."""
        self._refuse_full()
        names, entries, unlike = self.facts
        if not is_below(number, len(unlike)):
            raise NoPair(number)
        return self._go_on((names, entries, without(unlike, number)), self.claims, self._versions())

    def claim(self, one, other):
        """Add the claim that the two formulas tell the same, and return the new version."""
        self._refuse_full()
        for formula in (one, other):
            word = formula_error(self.facts[0], formula)
            if word is not None:
                raise BadFormula(word)
        if len(self.claims) >= MAX_CLAIMS:
            raise BadFormula("claims")
        return self._go_on(self.facts, (*self.claims, (one, other)), (*self._versions(), self.version + 1))

    def forget(self, number):
        """Take the claim with this number away, and return the new version."""
        self._refuse_full()
        if not is_below(number, len(self.claims)):
            raise NoClaim(number)
        return self._go_on(self.facts, without(self.claims, number), without(self._versions(), number))

    def undo(self):
        """Take the last edit back, and return the new version."""
        if self.version == 0:
            raise NothingToUndo()
        return self._turn_to(self._pages[:-1])

    def tried(self, function):
        """Return what function returns of this book, which stands then as it was ahead of the call."""
        pages = self._pages
        changed = self._changed
        try:
            return function(self)
        finally:
            self._pages = pages
            self._changed = changed

    def __getitem__(self, at):
        entries = self.facts[1]
        if not is_below(at, len(entries)):
            raise NoEntry(at)
        return entries[at]

    def __iter__(self):
        raise TypeError("a book is asked for its entries by their numbers")

    def __len__(self):
        return len(self.facts[1])

    def __eq__(self, other):
        return isinstance(other, Book) and self.facts == other.facts and self.claims == other.claims

    def __str__(self):
        return f"{len(self)} entries, {len(self.facts[2])} unlike, {len(self.claims)} claims, version {self.version}"

    def _versions(self):
        """Return for each claim the version that it came with, by which two equal claims are told apart."""
        return self._pages[-1][2]

    def _refuse_full(self):
        """Raise Full if no edit more can be in effect."""
        if self.version >= MAX_EDITS:
            raise Full()

    def _go_on(self, facts, claims, versions):
        """Add a page with these facts and claims, and return the new version; raise NoTable if there is no world."""
        refuse_clash(facts)
        told = tuple([verdict(facts, one, other) for one, other in claims])
        return self._turn_to((*self._pages, (facts, claims, versions, told)))

    def _turn_to(self, pages):
        """Take these pages for those that were, with what changes by it, and return the new version."""
        _, _, versions_before, told_before = self._pages[-1]
        _, _, versions, told = pages[-1]
        before = dict(zip(versions_before, told_before))
        self._changed = tuple([number for number, came in enumerate(versions) if before.get(came) != told[number]])
        self._pages = pages
        return self.version


def ascending(items, more):
    """Return the ascending tuple of the items and one more."""
    return tuple(sorted([*items, more]))


def without(items, number):
    """Return the items but the one with this number."""
    return items[:number] + items[number + 1:]
