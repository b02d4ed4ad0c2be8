"""What a web is, its sources, targets and lines, and the webs that differ from it."""

from nudgewebs.checks import check_links, check_nudge, check_order, check_quantity
from nudgewebs.checks import check_source, check_targets, check_web
from nudgewebs.errors import LineThere, NoLine, TooLarge
from nudgewebs.shapes import MOST_NUDGES, MOST_QUANTITIES, has_web_shape


def is_web(value):
    """Whether any value is a web [4]."""
    return has_web_shape(value)


def targets_of(web, source):
    """The ascending list of the targets of a source."""
    check_web(web)
    check_source(web, source)
    return target_rows(web)[source]


def sources_of(web, quantity):
    """The ascending list of the sources that act on a quantity."""
    check_web(web)
    check_quantity(web, quantity)
    return source_rows(web)[quantity]


def lines_of(web):
    """The ascending list of the lines [5]."""
    check_web(web)
    return all_lines(web)


def all_lines(web):
    """The same list, for what is known to be a web."""
    count, pairs, nudges = web
    pushed = [(count + at, target) for at, nudge in enumerate(nudges) for target in nudge]
    return pairs + pushed


def target_rows(web):
    """A list with the list of the targets of each source, for what is known to be a web."""
    rows = [[] for _ in range(web[0] + len(web[2]))]
    for source, target in all_lines(web):
        rows[source].append(target)
    return rows


def source_rows(web):
    """A list with the list of the sources of each quantity, for what is known to be a web."""
    rows = [[] for _ in range(web[0])]
    for source, target in all_lines(web):
        rows[target].append(source)
    return rows


def copied_nudges(nudges):
    """A list of new lists, so that no result shares a list with an argument."""
    return [list(nudge) for nudge in nudges]


def with_pair(web, quantity, target):
    """The web with a pair more."""
    check_web(web)
    check_quantity(web, quantity)
    check_quantity(web, target)
    count, pairs, nudges = web
    if (quantity, target) in pairs:
        raise LineThere(f"{quantity} acts on {target} already")
    return count, sorted(pairs + [(quantity, target)]), copied_nudges(nudges)


def without_pair(web, quantity, target):
    """The web with a pair less."""
    check_web(web)
    check_quantity(web, quantity)
    check_quantity(web, target)
    count, pairs, nudges = web
    if (quantity, target) not in pairs:
        raise NoLine(f"{quantity} does not act on {target}")
    return count, [pair for pair in pairs if pair != (quantity, target)], copied_nudges(nudges)


def with_nudge(web, targets):
    """The web with a nudge more, the last one."""
    check_web(web)
    check_targets(web, targets)
    count, pairs, nudges = web
    if len(nudges) == MOST_NUDGES:
        raise TooLarge(MOST_NUDGES)
    return count, list(pairs), copied_nudges(nudges + [targets])


def without_nudge(web, nudge):
    """The web without a nudge; those behind it get lesser numbers."""
    check_web(web)
    check_nudge(web, nudge)
    count, pairs, nudges = web
    return count, list(pairs), copied_nudges(nudges[:nudge] + nudges[nudge + 1:])


def turned(web):
    """The web with each pair turned about [15], with the same nudges."""
    check_web(web)
    count, pairs, nudges = web
    return count, sorted([(target, source) for source, target in pairs]), copied_nudges(nudges)


def renumbered(web, order):
    """The web in which the quantity order[i] has the number i."""
    check_web(web)
    check_order(web, order)
    count, pairs, nudges = web
    places = {quantity: at for at, quantity in enumerate(order)}
    new_pairs = sorted([(places[source], places[target]) for source, target in pairs])
    new_nudges = [sorted([places[target] for target in nudge]) for nudge in nudges]
    return count, new_pairs, new_nudges


def joined(web, second, links):
    """The web of both webs, the second one behind the first one, and of a pair for each link."""
    check_web(web)
    check_web(second)
    check_links(web, second, links)
    count, pairs, nudges = web
    if count + second[0] > MOST_QUANTITIES:
        raise TooLarge(MOST_QUANTITIES)
    if len(nudges) + len(second[2]) > MOST_NUDGES:
        raise TooLarge(MOST_NUDGES)
    linking = [(source, count + target) for source, target in links]
    moved_pairs = [(count + source, count + target) for source, target in second[1]]
    moved_nudges = [[count + target for target in nudge] for nudge in second[2]]
    return count + second[0], sorted(pairs + linking + moved_pairs), copied_nudges(nudges) + moved_nudges
