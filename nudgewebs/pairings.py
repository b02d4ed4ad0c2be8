"""Pairings of sources and targets, and gaps, for which there are too few sources [12]."""

from nudgewebs.checks import check_web
from nudgewebs.shapes import are_ascending, are_ascending_tuples, are_below
from nudgewebs.webs import all_lines, source_rows


def greatest_pairing(web):
    """A pairing with as many lines as possible."""
    check_web(web)
    return sorted(list(targets_of_paired(web).items()))


def pairing_size(web):
    """The number of the lines of a greatest pairing."""
    check_web(web)
    return len(targets_of_paired(web))


def is_pairing(web, value):
    """Whether any value is a pairing [12], an ascending list of lines."""
    check_web(web)
    count, _, nudges = web
    if not are_ascending_tuples(value, count + len(nudges), count):
        return False
    lines = all_lines(web)
    if not all([line in lines for line in value]):
        return False
    sources = [source for source, _ in value]
    targets = [target for _, target in value]
    return len(set(sources)) == len(value) and len(set(targets)) == len(value)


def loose(web):
    """The ascending list of the quantities to each of which some greatest pairing has no line."""
    check_web(web)
    paired = targets_of_paired(web)
    taken = list(paired.values())
    rows = source_rows(web)
    found = {}
    waiting = [quantity for quantity in range(web[0]) if quantity not in taken]
    # All sources of a loose quantity are paired, or one line more would be possible. If such a
    # source changes to this quantity, the one to which its line was is loose in its place.
    while waiting:
        quantity = waiting.pop()
        if quantity not in found:
            found[quantity] = True
            waiting.extend([paired[source] for source in rows[quantity]])
    return sorted(found)


def is_gap(web, value):
    """Whether any value is a gap [12]."""
    check_web(web)
    if not are_below(value, web[0]) or not are_ascending(value):
        return False
    rows = source_rows(web)
    acting = [source for quantity in value for source in rows[quantity]]
    return len(set(acting)) < len(value)


def targets_of_paired(web):
    """A dict of the sources of a greatest pairing, each with its target."""
    rows = source_rows(web)
    paired = {}
    for quantity in range(web[0]):
        find_source(rows, paired, quantity, {})
    return paired


def find_source(rows, paired, quantity, tried):
    """Whether the quantity gets a source; one that is taken is given if its target gets another."""
    for source in rows[quantity]:
        if source not in tried:
            tried[source] = True
            if source not in paired or find_source(rows, paired, paired[source], tried):
                paired[source] = quantity
                return True
    return False
