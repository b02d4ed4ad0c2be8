"""Webs and values for the tests, and the points of the document worked out once more."""

from itertools import combinations, combinations_with_replacement
from math import gcd

STAR = (3, [(0, 1), (0, 2)], [[0]])
CHAIN = (3, [(0, 1), (1, 2)], [[0]])
PAIR = (3, [(0, 1), (1, 0), (1, 2)], [])
LEAST = (1, [], [])
LOOP = (1, [(0, 0)], [])
# Nothing can be forced in it for either kind, for all sources have both quantities as aims.
STUCK = (2, [(0, 0), (0, 1), (1, 0), (1, 1)], [[0, 1]])
BARE = (20, [], [])
FULL = (20, [(a, b) for a in range(20) for b in range(20)], [list(range(20)) for _ in range(8)])
LONG = (20, [(at, at + 1) for at in range(19)], [[0]])
# Two quantities, two nudges with equal targets, two that act on themselves.
TWINS = (4, [(0, 0), (0, 3), (2, 1), (3, 3)], [[0, 2], [0, 2]])
SAMPLES = [STAR, CHAIN, PAIR, LEAST, LOOP, STUCK, BARE, FULL, LONG, TWINS]
KINDS = ["still", "steady"]


def nested(value, levels, as_tuple):
    for _ in range(levels):
        value = (value,) if as_tuple else [value]
    return value


# None of these is a web, a number of anything in a web, a kind, a list of targets or an order.
ODD_VALUES = [
    None, True, False, -1, -(10 ** 29), 10 ** 29, "", "0", "star", "Still", "still ", b"", b"still", b"\x00",
    {}, {0: 1}, {"still": [0]}, (), (0,), (0, 1), [None], [True], [False], [-1], [10 ** 29], ["0"], [b"0"], [()],
    [[]], [{}], ((),), ({},), [0, None], [0, "1"], [(0, 1)], [[0, 1]], (3, [], [], []), (3, []), [3, [], []],
    (None, None, None), ([], [], []), ("3", [], []), (3, {}, []), (3, [], {}), (3, None, []), (3, [], None),
    (3, [None], []), (3, [], [None]), (3, [[0, 1]], []), (3, [(0, 1), "01"], []), (3, [(0, {})], []),
    (3, [], [[0], None]), (3, [], [[0, None]]), (3, [], [[[0]]]), (3, [], [(0,)]), (True, [], []),
    nested(0, 20, False), nested(0, 20, True), nested([], 19, True), nested((), 19, False),
    {0: nested([], 18, False)}, [nested({}, 18, True), 1], list(range(420)), [[]] * 420, [(0, 0)] * 2,
]


def all_lines(web):
    count, pairs, nudges = web
    return list(pairs) + [(count + at, target) for at in range(len(nudges)) for target in nudges[at]]


def subsets(values, most):
    return [list(some) for many in range(most + 1) for some in combinations(values, many)]


def nudge_lists(count, most_nudges):
    targets = [some for some in subsets(range(count), count) if some]
    for many in range(most_nudges + 1):
        for some in combinations_with_replacement(targets, many):
            yield [list(one) for one in some]


def small_webs(count, most_nudges, most_lines):
    """All webs of so many quantities, with no more nudges and lines (up to the order of the nudges)."""
    places = [(source, target) for source in range(count) for target in range(count)]
    for nudges in nudge_lists(count, most_nudges):
        left = most_lines - sum(len(nudge) for nudge in nudges)
        if left >= 0:
            for pairs in subsets(places, min(left, len(places))):
                yield (count, pairs, nudges)


def numbers_from(seed):
    """An endless row of numbers that look mixed and are the same in each run."""
    while True:
        seed = (seed * 6364136223846793005 + 1442695040888963407) % 2 ** 64
        yield seed >> 33


def some_of(numbers, values, chance):
    """Those of the values that have a luck of one in `chance`."""
    return [value for value in values if next(numbers) % chance == 0]


def mixed_web(numbers, count, chance, most_nudges):
    places = [(source, target) for source in range(count) for target in range(count)]
    nudges = [some_of(numbers, range(count), chance) for _ in range(next(numbers) % (most_nudges + 1))]
    return (count, some_of(numbers, places, chance), [nudge for nudge in nudges if nudge])


def aims(web, kind):
    """Point 9, in sets: the aims of each source."""
    found = [set() for _ in range(web[0] + len(web[2]))]
    for source, target in all_lines(web):
        found[source].add(target)
    for quantity in range(web[0] if kind == "steady" else 0):
        found[quantity].add(quantity)
    return found


def can_force(web, kind, source, quantity, unforced):
    """Point 9: whether a source can force a quantity while those are open."""
    if kind == "steady" and source == quantity and (quantity, quantity) in web[1]:
        return False
    return aims(web, kind)[source] & set(unforced) == {quantity}


def forcers(web, kind, unforced):
    """All tuples of a quantity that can be forced now and a source that can force it, ascending."""
    sources = range(web[0] + len(web[2]))
    return [(quantity, source) for quantity in sorted(unforced) for source in sources
            if can_force(web, kind, source, quantity, unforced)]


def is_fort(web, kind, fort):
    """Point 10."""
    for source, aimed in enumerate(aims(web, kind)):
        inside = aimed & set(fort)
        alone = kind == "steady" and inside == {source} and (source, source) in web[1]
        if len(inside) == 1 and not alone:
            return False
    return bool(fort)


def greatest_fort(web, kind):
    """All quantities that stand in a fort."""
    forts = [fort for fort in subsets(range(web[0]), web[0]) if is_fort(web, kind, fort)]
    return sorted({quantity for fort in forts for quantity in fort})


def filled(web, numbers):
    """The filling that gives the lines these numbers, in their sequence."""
    strengths, at = [], len(web[1])
    for nudge in web[2]:
        strengths.append(list(numbers[at:at + len(nudge)]))
        at += len(nudge)
    return list(numbers[:len(web[1])]), strengths


def step(web, filling, state, given):
    """Point 7."""
    new = [0] * web[0]
    for (source, target), number in zip(web[1], filling[0]):
        new[target] += number * state[source]
    for nudge, strengths, push in zip(web[2], filling[1], given):
        for target, number in zip(nudge, strengths):
            new[target] += number * push
    return new


def reached_states(web, filling):
    """Point 8: the states of which each state that can be reached is a sum of multiples."""
    found, many = [], len(web[2])
    for nudge in range(many):
        state = step(web, filling, [0] * web[0], [int(at == nudge) for at in range(many)])
        for _ in range(web[0]):
            found.append(state)
            state = step(web, filling, state, [0] * many)
    return found


def dimension(states):
    """The dimension of the space of some states, by steps that keep to integers."""
    rows, done = [list(state) for state in states], 0
    for at in range(len(rows[0]) if rows else 0):
        first = next((k for k in range(done, len(rows)) if rows[k][at]), None)
        if first is not None:
            rows[done], rows[first] = rows[first], rows[done]
            head = rows[done]
            for k in range(done + 1, len(rows)):
                if rows[k][at]:
                    by = rows[k][at]
                    row = [head[at] * a - by * b for a, b in zip(rows[k], head)]
                    rows[k] = [number // (gcd(*row) or 1) for number in row]
            done += 1
    return done


def reach_dimension(web, filling):
    return dimension(reached_states(web, filling))


def lists_in(value):
    """All lists in a value, in any depth, the value itself too."""
    found = [value] if isinstance(value, list) else []
    if isinstance(value, (list, tuple)):
        for one in value:
            found.extend(lists_in(one))
    return found


def mixed_numbers(numbers, many, greatest):
    """So many numbers from -greatest to greatest, none of them 0."""
    return [(next(numbers) % greatest + 1) * (-1) ** (next(numbers) % 2) for _ in range(many)]


def mixed_filling(numbers, web, greatest):
    return filled(web, mixed_numbers(numbers, len(all_lines(web)), greatest))


def sums_to(web, filling, fort):
    """For each source the sum of its numbers to the quantities of a fort."""
    sums = [0] * (web[0] + len(web[2]))
    numbers = filling[0] + [number for one in filling[1] for number in one]
    for (source, target), number in zip(all_lines(web), numbers):
        sums[source] += number if target in fort else 0
    return sums


def shows_fort(web, kind, fort, filling):
    """Point 11."""
    sums = enumerate(sums_to(web, filling, fort))
    return all(number == int(kind == "steady" and source in fort) for source, number in sums)


def product_of(row, other):
    """Point 8: the product of two lists."""
    return sum(a * b for a, b in zip(row, other))


def behind(web, starts):
    """The set of some quantities and of all to which pairs lead from them."""
    found = set(starts)
    while True:
        more = {target for source, target in web[1] if source in found} - found
        if not more:
            return found
        found |= more


def reached(web):
    """Point 12: the set of the quantities that are reached."""
    return behind(web, {quantity for nudge in web[2] for quantity in nudge})


def covers(web):
    """For each cover of a small web [13], found by trying, a dict of its quantities and their sources."""
    # In a cover each quantity has a source of its own, and each source that is a quantity has one
    # itself. So the quantities stand in ways and in rings, and those in rings must be reached.
    chosen = [{}]
    for quantity in range(web[0]):
        sources = [source for source, target in all_lines(web) if target == quantity]
        chosen += [{**some, quantity: source} for some in chosen for source in sources if source not in some.values()]
    quantities, met = set(range(web[0])), reached(web)
    return [some for some in chosen if set(some.values()) & quantities <= set(some) <= met]


def cover_from(web, chosen):
    """The tuple of the ways and the rings of a cover that is given by the sources of its quantities."""
    following = {source: quantity for quantity, source in chosen.items()}
    rows = {}
    for quantity in sorted(chosen):
        row = [quantity]
        while row[-1] in following and following[row[-1]] != quantity:
            row.append(following[row[-1]])
        rows[quantity] = row
    ways = [(source - web[0], rows[quantity]) for quantity, source in chosen.items() if source >= web[0]]
    inside = {quantity for _, way in ways for quantity in way}
    rings = [rows[quantity] for quantity in sorted(rows) if quantity not in inside and quantity == min(rows[quantity])]
    return ways, rings


def covered_sets(web):
    """All sets of quantities that some cover of a small web has."""
    return {frozenset(chosen) for chosen in covers(web)}


def greatest_size(web):
    return max(len(some) for some in covered_sets(web))


def ring_web(lengths, nudges):
    """Rings of these lengths, one behind the other, with a pair from each one to the next one."""
    pairs, count = set(), 0
    for length in lengths:
        pairs |= {(count + at, count + (at + 1) % length) for at in range(length)}
        if count:
            pairs.add((count - 1, count))
        count += length
    return (count, sorted(pairs), nudges)


def is_cover(web, ways, rings):
    """Point 13, for lists of the right kinds: ways as tuples of a nudge and a list, rings as lists."""
    rows = [way for _, way in ways] + rings
    steps = [pair for row in rows for pair in zip(row, row[1:])] + [(ring[-1], ring[0]) for ring in rings]
    covered = [quantity for row in rows for quantity in row]
    return (all(pair in web[1] for pair in steps) and len(set(covered)) == len(covered)
            and all(way[0] in web[2][nudge] for nudge, way in ways)
            and len({nudge for nudge, _ in ways}) == len(ways) and all(set(ring) <= reached(web) for ring in rings))


def hill_bound(web, hill):
    """Point 14: the bound of a hill."""
    heights, prices = hill
    bound, met = sum(prices), reached(web)
    for quantity in met:
        tops = [heights[source] for source in met if (source, quantity) in web[1]]
        tops += [price for nudge, price in zip(web[2], prices) if quantity in nudge]
        bound += max([0, *[1 + heights[quantity] - top for top in tops]])
    return bound


def is_reduced(rows, count):
    """Whether rows have the properties of the one list of point 20."""
    places = []
    for row in rows:
        if len(row) != count or gcd(*row) != 1:
            return False
        places.append([at for at in range(count) if row[at]][0])
        if row[places[-1]] < 0 or len([one for one in rows if one[places[-1]]]) != 1:
            return False
    return places == sorted(set(places))
