"""What holds for some filling: covers, and the hills that bound their sizes [13, 14]."""

from math import isqrt

from nudgewebs.checks import check_hill, check_web
from nudgewebs.covers import greatest_cover, greatest_size, greatest_worth, least_hill
from nudgewebs.fillings import basic_pushes, filling_with
from nudgewebs.shapes import are_below, has_hill_shape, is_number_below
from nudgewebs.ways import reached_quantities
from nudgewebs.webs import all_lines, source_rows


def reaches_some(web):
    """Whether some filling reaches all states."""
    check_web(web)
    return greatest_size(web) == web[0]


def most(web):
    """The greatest dimension of the reach of any filling."""
    check_web(web)
    return greatest_size(web)


def best_filling(web):
    """A filling whose reach has the greatest dimension."""
    check_web(web)
    size = greatest_size(web)
    # Products of unlike primes differ, so it is rare that sums of them make up 0.
    numbers = []
    for _ in all_lines(web):
        numbers.append(prime_behind(numbers))
    while len(basic_pushes(web, filling_with(web, numbers))[1]) < size:
        numbers = numbers[1:] + [prime_behind(numbers)]
    return filling_with(web, numbers)


def best_cover(web):
    """A cover of the greatest size."""
    check_web(web)
    return greatest_cover(web)


def best_hill(web):
    """A hill whose bound is the greatest size of a cover."""
    check_web(web)
    return least_hill(web)


def is_cover(web, value):
    """Whether any value is a cover [13]."""
    check_web(web)
    if not isinstance(value, tuple) or len(value) != 2:
        return False
    ways, rings = value
    if not isinstance(ways, list) or not all([is_nudged_way(web, one) for one in ways]):
        return False
    if not isinstance(rings, list) or not all([is_reached_ring(web, ring) for ring in rings]):
        return False
    nudges = [nudge for nudge, _ in ways]
    covered = [quantity for row in [way for _, way in ways] + rings for quantity in row]
    return len(set(nudges)) == len(nudges) and len(set(covered)) == len(covered)


def is_hill(web, value):
    """Whether any value is a hill [14]."""
    check_web(web)
    return has_hill_shape(web, value)


def bound_of(web, hill):
    """The bound of a hill [14]."""
    check_web(web)
    check_hill(web, hill)
    return hill_bound(web, hill)


def placed(web):
    """For each quantity in how many of the covers of the greatest size it stands, as a word."""
    check_web(web)
    ways, rings = greatest_cover(web)
    covered = [quantity for row in [way for _, way in ways] + rings for quantity in row]
    return [place_of(web, quantity, quantity in covered, len(covered)) for quantity in range(web[0])]


def place_of(web, quantity, is_covered, size):
    """The word for a quantity that one of the covers of the greatest size has, or has not."""
    # All other quantities are worth so much that a cover of a lesser size is never worth most.
    worths = [2] * web[0]
    if is_covered:
        worths[quantity] = 1
        return "sometimes" if greatest_worth(web, worths) == 2 * size else "always"
    worths[quantity] = 3
    return "sometimes" if greatest_worth(web, worths) > 2 * size else "never"


def hill_bound(web, hill):
    """The bound of a hill, for what is known to be a web and a hill of it."""
    heights, prices = hill
    behind = reached_quantities(web)
    tops = heights + prices
    bound = sum(prices)
    for quantity, sources in enumerate(source_rows(web)):
        if quantity in behind:
            acting = [source for source in sources if source >= web[0] or source in behind]
            bound += max([0] + [1 + heights[quantity] - tops[source] for source in acting])
    return bound


def is_row_of_pairs(web, value):
    """Whether any value is a list of one or more quantities, each of which acts on the next one."""
    if not are_below(value, web[0]) or not value:
        return False
    return all([pair in web[1] for pair in zip(value, value[1:])])


def is_nudged_way(web, value):
    """Whether any value is a tuple of a nudge and of a row of pairs that begins where it acts."""
    if not isinstance(value, tuple) or len(value) != 2:
        return False
    nudge, way = value
    if not is_number_below(nudge, len(web[2])) or not is_row_of_pairs(web, way):
        return False
    return way[0] in web[2][nudge]


def is_reached_ring(web, value):
    """Whether any value is a row of pairs of reached quantities, the last one acting on the first."""
    if not is_row_of_pairs(web, value) or (value[-1], value[0]) not in web[1]:
        return False
    return value[0] in reached_quantities(web)


def prime_behind(primes):
    """The least prime that is greater than the last one of a list, 2 if there is none."""
    number = primes[-1] + 1 if primes else 2
    while not all([number % divisor for divisor in range(2, isqrt(number) + 1)]):
        number += 1
    return number
