"""What entries make one thing."""


def closed(many, entries, pairs):
    """Return for each number below many the least one that the entries, and the pairs, make one thing with it."""
    leads = list(range(many))
    for one, other in pairs:
        leads = united(leads, leads[one], leads[other])
    before = None
    # What becomes one thing late can make two entries meet that were passed by.
    while leads != before:
        before = leads
        leads = closed_once(leads, entries)
    return leads


def closed_once(leads, entries):
    """Return leads with all made one thing that meets while the entries are gone through once."""
    seen = {}
    for entry in entries:
        for word, one, other, told in readings(entry):
            lead = leads[told]
            first = seen.setdefault((word, leads[one], leads[other]), lead)
            leads = united(leads, leads[first], lead)
    return leads


def readings(entry):
    """Return the three ways in which an entry is read: the word, the two that it is said of, and what it tells."""
    x, y, z = entry
    return (("with", x, y, z), ("behind", x, z, y), ("ahead", y, z, x))


def united(leads, one, other):
    """Return leads with these two of them made one thing, which the lesser one leads."""
    if one == other:
        return leads
    least = min(one, other)
    return [least if lead in (one, other) else lead for lead in leads]
