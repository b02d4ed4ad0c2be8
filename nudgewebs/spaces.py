"""Spaces of rows of integers.

Each space has one list of reduced rows, the one with the properties that point 20 names: the
first number of a row that is not 0, its head, is positive, stands behind the head of the row
ahead, and is the only one at its place that is not 0; no row has a common divisor above 1.
"""

from math import gcd, lcm


def head_place(row):
    """The place of the head of a row, or None if the row has only 0."""
    for place, number in enumerate(row):
        if number != 0:
            return place
    return None


def shortened(row):
    """The multiple of a row that has a positive head and no common divisor above 1."""
    place = head_place(row)
    if place is None:
        return list(row)
    divisor = 0
    for number in row:
        divisor = gcd(divisor, number)
    if row[place] < 0:
        divisor = -divisor
    return [number // divisor for number in row]


def parts_of(rows, row):
    """How often reduced rows are in a row: a tuple of the least integer from 1 on by which the row
    must be multiplied for that, and a list with an integer for each reduced row."""
    places = [head_place(one) for one in rows]
    times = 1
    for one, place in zip(rows, places):
        times = lcm(times, one[place] // gcd(one[place], row[place]))
    return times, [times * row[place] // one[place] for one, place in zip(rows, places)]


def rest_of(rows, row):
    """What is left of a multiple of a row without its parts, shortened; it has 0 at each head."""
    times, parts = parts_of(rows, row)
    rest = [times * number for number in row]
    for one, part in zip(rows, parts):
        if part != 0:
            rest = [number - part * other for number, other in zip(rest, one)]
    return shortened(rest)


def is_inside(rows, row):
    """Whether a row is in the space of the reduced rows."""
    return head_place(rest_of(rows, row)) is None


def rows_with(rows, row):
    """The reduced rows of the space of some reduced rows and of one row more."""
    rest = rest_of(rows, row)
    place = head_place(rest)
    if place is None:
        return rows
    ahead = [rest_of([rest], one) for one in rows if head_place(one) < place]
    behind = [one for one in rows if head_place(one) > place]
    return ahead + [rest] + behind


def reduced_rows(rows):
    """The reduced rows of the space of any rows."""
    reduced = []
    for row in rows:
        reduced = rows_with(reduced, row)
    return reduced


def upright_row(rows, count, place):
    """A row whose product with each reduced row is 0; besides their heads it has only this place."""
    times = 1
    for one in rows:
        head = one[head_place(one)]
        times = lcm(times, head // gcd(head, one[place]))
    row = [0] * count
    row[place] = times
    for one in rows:
        row[head_place(one)] = -times * one[place] // one[head_place(one)]
    return row


def upright_rows(rows, count):
    """The reduced rows of the space of all rows whose products with the reduced rows are 0."""
    places = [head_place(one) for one in rows]
    free = [place for place in range(count) if place not in places]
    return reduced_rows([upright_row(rows, count, place) for place in free])
