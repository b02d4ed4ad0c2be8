"""Forts: quantities of which some numbers keep the sum as it is, whatever the pushes are [10, 11]."""

from itertools import combinations

from nudgewebs.checks import check_filling, check_kind, check_web
from nudgewebs.errors import InvalidFort, TooLarge
from nudgewebs.every import forced_by, forcing_rules
from nudgewebs.fillings import numbered_lines
from nudgewebs.shapes import are_targets
from nudgewebs.webs import target_rows

MOST_FOR_LEAST_FORTS = 10


def is_fort(web, kind, value):
    """Whether any value is a fort of the kind [10]."""
    check_web(web)
    check_kind(kind)
    return has_fort_shape(web, kind, value)


def least_forts(web, kind):
    """The ascending list of the forts of the kind that contain no other one."""
    check_web(web)
    check_kind(kind)
    if web[0] > MOST_FOR_LEAST_FORTS:
        raise TooLarge(MOST_FOR_LEAST_FORTS)
    rules = forcing_rules(web, kind)
    found = []
    # A fort has fewer quantities than those that contain it, so it is found ahead of them.
    for many in range(1, web[0] + 1):
        for some in combinations(range(web[0]), many):
            if none_can_force(rules, some) and not contains_one(some, found):
                found.append(list(some))
    return sorted(found)


def fort_filling(web, kind, fort):
    """A filling that shows a fort [11]."""
    check_web(web)
    check_kind(kind)
    check_fort(web, kind, fort)
    count = web[0]
    sums = sums_to_show(web, kind, fort)
    rows = [numbers_with_sum(row, fort, wanted) for row, wanted in zip(target_rows(web), sums)]
    return [number for row in rows[:count] for number in row], rows[count:]


def shows_fort(web, kind, fort, filling):
    """Whether a filling shows a fort [11]."""
    check_web(web)
    check_kind(kind)
    check_fort(web, kind, fort)
    check_filling(web, filling)
    sums = [0] * (web[0] + len(web[2]))
    for source, target, number in numbered_lines(web, filling):
        if target in fort:
            sums[source] += number
    return sums == sums_to_show(web, kind, fort)


def has_fort_shape(web, kind, value):
    """The same as `is_fort`, for what is known to be a web and a kind."""
    return are_targets(value, web[0]) and none_can_force(forcing_rules(web, kind), value)


def check_fort(web, kind, fort):
    """Raises the error of a parameter as those of the file checks.py do."""
    if not has_fort_shape(web, kind, fort):
        raise InvalidFort(f"not a fort of the web and the kind {kind}")


def none_can_force(rules, quantities):
    """Whether no source can force one of the quantities while just these are open.

    So it is for forts alone: a source can force one if it has just one aim among them, but for
    the quantity that forts of the kind steady except, too.
    """
    return all([forced_by(rule, quantities) is None for rule in rules])


def contains_one(quantities, forts):
    """Whether all quantities of one of the forts are among these."""
    return any([all([one in quantities for one in fort]) for fort in forts])


def sums_to_show(web, kind, fort):
    """For each source the sum of its numbers to the fort in a filling that shows it [11]."""
    sources = range(web[0] + len(web[2]))
    return [1 if kind == "steady" and source in fort else 0 for source in sources]


def numbers_with_sum(targets, fort, wanted):
    """A number for each target, none of them 0; those to the fort have the wanted sum, 0 or 1."""
    numbers = [1] * len(targets)
    inside = [at for at, target in enumerate(targets) if target in fort]
    if not inside:
        return numbers
    last = wanted - len(inside) + 1
    if last == 0:
        # There are two of them, and their sum is 1.
        numbers[inside[0]] = 2
        last = -1
    numbers[inside[-1]] = last
    return numbers
