"""Further nudges, besides those of a web, with which all states are reached [24]."""

from itertools import combinations

from nudgewebs.checks import KINDS, check_web
from nudgewebs.errors import TooLarge
from nudgewebs.every import forced_from, forcing_rules
from nudgewebs.pairings import targets_of_paired
from nudgewebs.ways import first_rooms, reached_quantities

MOST_FOR_SURE_NUDGES = 10


def fewest_wide(web):
    """The fewest further nudges, with any targets, with which some filling reaches all states."""
    check_web(web)
    # A nudge with all targets makes a pairing greater by one line, and all quantities reached.
    lacking = web[0] - len(targets_of_paired(web))
    if lacking == 0 and len(reached_quantities(web)) < web[0]:
        return 1
    return lacking


def wide_nudges(web):
    """A list of as few lists of targets."""
    return [list(range(web[0])) for _ in range(fewest_wide(web))]


def fewest_single(web):
    """The fewest further nudges with one target each with which some filling reaches all states."""
    return len(single_nudges(web))


def single_nudges(web):
    """An ascending list of as few quantities."""
    check_web(web)
    count, pairs, nudges = web
    behind = reached_quantities(web)
    cut_off = [room for room in first_rooms(web) if room[0] not in behind]
    # Each of these rooms must get a nudge, and each quantity without a source, too. The fewest are
    # needed if as many nudges as possible do both: so each of the rooms is a source here.
    paired = targets_of_paired((count, pairs, nudges + cut_off))
    acted_on = [target for source, target in paired.items() if source < count + len(nudges)]
    found = [quantity for quantity in range(count) if quantity not in acted_on]
    missed = [room[0] for room in cut_off if not any([quantity in found for quantity in room])]
    return sorted(found + missed)


def fewest_sure(web):
    """The fewest further nudges with one target each with which every filling reaches all states."""
    return len(sure_nudges(web)[0])


def sure_nudges(web):
    """The ascending list of all ascending lists of as few quantities."""
    check_web(web)
    if web[0] > MOST_FOR_SURE_NUDGES:
        raise TooLarge(MOST_FOR_SURE_NUDGES)
    rules = [forcing_rules(web, kind) for kind in KINDS]
    many = 0
    found = sure_lists(web, rules, many)
    while not found:
        many += 1
        found = sure_lists(web, rules, many)
    return found


def sure_lists(web, rules, many):
    """The ascending list of the lists of just so many quantities that are enough."""
    choices = [list(some) for some in combinations(range(web[0]), many)]
    return [some for some in choices if are_enough(web, rules, some)]


def are_enough(web, rules, quantities):
    """Whether a nudge more on each of the quantities leaves nothing open for either kind."""
    # Each of them is forced by its own nudge, whatever else is open.
    others = [quantity for quantity in range(web[0]) if quantity not in quantities]
    return not any([forced_from(one, others)[1] for one in rules])
