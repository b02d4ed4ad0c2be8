"""What single lines do, those of a web and pairs that are not there [25]."""

from nudgewebs.checks import check_web
from nudgewebs.covers import cover_lines, greatest_size, least_hill
from nudgewebs.every import leaves_none_open
from nudgewebs.some import hill_bound
from nudgewebs.webs import all_lines, target_rows


def needed(web):
    """The lines without each of which the greatest dimension is less."""
    check_web(web)
    size = greatest_size(web)
    # Without any other line a greatest cover is still there, and all its quantities are reached.
    lines = sorted(set(cover_lines(web) + reaching_lines(web)))
    return [line for line in lines if greatest_size(without_line(web, line)) < size]


def raising(web):
    """The pairs that are not there with each of which the greatest dimension is greater."""
    check_web(web)
    size = greatest_size(web)
    hill = least_hill(web)
    # A pair that leaves the bound of the hill as it is leaves the greatest dimension, too.
    others = [(pair, with_line(web, pair)) for pair in absent_pairs(web)]
    return [pair for pair, other in others if hill_bound(other, hill) > size and greatest_size(other) > size]


def spoiling(web):
    """The pairs that are not there with which not every filling reaches all states, as it does now."""
    check_web(web)
    if not leaves_none_open(web):
        return []
    return [pair for pair in absent_pairs(web) if not leaves_none_open(with_line(web, pair))]


def mending(web):
    """The lines without which every filling reaches all states, as it does not now."""
    check_web(web)
    if leaves_none_open(web):
        return []
    return [line for line in all_lines(web) if leaves_none_open(without_line(web, line))]


def mending_pairs(web):
    """The pairs that are not there with which every filling reaches all states, as it does not now."""
    check_web(web)
    if leaves_none_open(web):
        return []
    return [pair for pair in absent_pairs(web) if leaves_none_open(with_line(web, pair))]


def absent_pairs(web):
    """The ascending list of the pairs that are not there."""
    quantities = range(web[0])
    rows = target_rows(web)
    return [(source, target) for source in quantities for target in quantities if target not in rows[source]]


def with_line(web, pair):
    """The web with a pair more."""
    count, pairs, nudges = web
    return count, sorted(pairs + [pair]), nudges


def without_line(web, line):
    """The web with a line less. A nudge that had just this one has no targets, but keeps its number."""
    count, pairs, nudges = web
    source, target = line
    if source < count:
        return count, [pair for pair in pairs if pair != line], nudges
    left = [list(nudge) for nudge in nudges]
    left[source - count].remove(target)
    return count, pairs, left


def reaching_lines(web):
    """Lines by which alone all quantities are reached that are reached by all lines."""
    rows = target_rows(web)
    lines = []
    passed = {}
    waiting = list(range(web[0], len(rows)))
    while waiting:
        source = waiting.pop()
        for target in rows[source]:
            if target not in passed:
                passed[target] = True
                lines.append((source, target))
                waiting.append(target)
    return lines
