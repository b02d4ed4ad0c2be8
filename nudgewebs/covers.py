"""The greatest covers [13], and the heights that show that no cover is greater [14].

Each source takes one source here, and each one is taken by one. A quantity that is reached, or a
nudge, may take one of its targets, and covers it so. A quantity that is not covered takes itself.
The last quantity of a way, and a nudge that is not used, takes some nudge. So the takes are rings:
those of quantities alone are rings of the cover, the others are ways, one behind the other.
"""

from nudgewebs.ways import reached_quantities
from nudgewebs.webs import target_rows


def greatest_size(web):
    """The greatest size of a cover."""
    return greatest_worth(web, [1] * web[0])


def greatest_worth(web, worths):
    """The greatest worth of a cover if each quantity in it has its worth."""
    rows = worth_rows(web, worths)
    takes, _ = best_takes(rows)
    return sum([row[taken] for row, taken in zip(rows, takes)])


def greatest_cover(web):
    """A cover of the greatest size."""
    rows = worth_rows(web, [1] * web[0])
    takes, _ = best_takes(rows)
    return ways_of(web, takes), rings_of(web, rows, takes)


def cover_lines(web):
    """The lines by which the quantities of a cover of the greatest size are covered."""
    rows = worth_rows(web, [1] * web[0])
    takes, _ = best_takes(rows)
    return [(source, taken) for source, taken in enumerate(takes) if rows[source][taken] > 0]


def least_hill(web):
    """A hill whose bound is the greatest size of a cover."""
    _, heights = best_takes(worth_rows(web, [1] * web[0]))
    return heights[:web[0]], heights[web[0]:]


def worth_rows(web, worths):
    """For each source a dict of all that it may take, with what it is worth that it does."""
    count, _, nudges = web
    behind = reached_quantities(web)
    ends = {count + at: 0 for at in range(len(nudges))}
    rows = []
    for source, targets in enumerate(target_rows(web)):
        row = {source: 0}
        # What is not reached stands in no cover, so it takes nothing but itself.
        if source >= count or source in behind:
            row.update(ends)
            row.update({target: worths[target] for target in targets})
        rows.append(row)
    return rows


def best_takes(rows):
    """The tuple of the list of what each source takes, such that all is worth most, and of heights.

    The height of a source is the most that a row of changes gains in which it is the first to take
    something else. So each source that takes a target makes up for the heights of both, and the
    heights are the hill that has the worth of all as its bound.
    """
    takes = list(range(len(rows)))
    ring, heights = gaining_ring(rows, takes)
    while ring:
        taken = [takes[source] for source in ring]
        for source, other in zip(ring, taken[1:] + taken[:1]):
            takes[source] = other
        ring, heights = gaining_ring(rows, takes)
    return takes, heights


def gaining_ring(rows, takes):
    """The tuple of a ring of sources and of the heights.

    If each source of the ring takes what the next one takes now, all is worth more. If there is no
    such ring, it is [], and the heights are those that `best_takes` tells of.
    """
    takers = {taken: source for source, taken in enumerate(takes)}
    heights = [0] * len(rows)
    # What is left of the height of its taker if a source must be left to another one.
    levels = [-rows[takers[taken]][taken] for taken in range(len(rows))]
    following = {}
    ring, raised = [], True
    while raised and not ring:
        raised = False
        for source, row in enumerate(rows):
            for taken, worth in row.items():
                if worth + levels[taken] > heights[source]:
                    heights[source] = worth + levels[taken]
                    following[source] = takers[taken]
                    raised = True
            levels[takes[source]] = heights[source] - row[takes[source]]
        ring = ring_in(following)
    return ring, heights


def ring_in(following):
    """A ring of sources, each with the next one behind it in a dict; [] if there is none."""
    passed = {}
    for start in list(following):
        source = start
        while source in following and source not in passed:
            passed[source] = start
            source = following[source]
        if passed.get(source) == start:
            ring = [source]
            while following[ring[-1]] != source:
                ring.append(following[ring[-1]])
            return ring
    return []


def row_from(web, takes, first):
    """The list of a quantity and of what is taken behind it, up to a nudge or to itself again."""
    row = [first]
    while takes[row[-1]] < web[0] and takes[row[-1]] != first:
        row.append(takes[row[-1]])
    return row


def ways_of(web, takes):
    """The list of the ways of a cover, each as a tuple of its nudge and the way."""
    firsts = takes[web[0]:]
    return [(nudge, row_from(web, takes, first)) for nudge, first in enumerate(firsts) if first < web[0]]


def rings_of(web, rows, takes):
    """The list of the rings of a cover."""
    found = [row_from(web, takes, quantity) for quantity in range(web[0])]
    # Each ring is found from each of its quantities, and a row that ends with a nudge is no ring.
    return [row for row in found if row[0] == min(row) and rows[row[-1]][takes[row[-1]]] > 0]
