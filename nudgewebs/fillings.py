"""What the numbers of a filling make of pushes: steps, and the states that they reach [6, 7, 8]."""

from nudgewebs.checks import check_filling, check_given, check_rows, check_state, check_web
from nudgewebs.shapes import are_push_rows, has_filling_shape, is_integer
from nudgewebs.spaces import is_inside, parts_of, reduced_rows, rows_with, upright_rows
from nudgewebs.webs import all_lines


def is_filling(web, value):
    """Whether any value is a filling of the web [6]."""
    check_web(web)
    return has_filling_shape(web, value)


def step(web, filling, state, given):
    """The new state to which a state and a push of each nudge lead."""
    check_web(web)
    check_filling(web, filling)
    check_state(web, state)
    check_given(web, given)
    return moved(web[0], numbered_lines(web, filling), state, given)


def run(web, filling, state, rows):
    """The list of the states from the given one on, one more than there are rows of pushes."""
    check_web(web)
    check_filling(web, filling)
    check_state(web, state)
    check_rows(web, rows)
    return states_behind(web, filling, state, rows)


def reach_dimension(web, filling):
    """The dimension of the reach."""
    return len(reach_rows(web, filling))


def reach_rows(web, filling):
    """The reduced rows of the reach, the one list that point 20 names."""
    check_web(web)
    check_filling(web, filling)
    return basic_pushes(web, filling)[1]


def unmoved_rows(web, filling):
    """The reduced rows of the space of the unmoved lists [8]."""
    return upright_rows(reach_rows(web, filling), web[0])


def is_reached(web, filling, state):
    """Whether the state is in the reach."""
    check_web(web)
    check_filling(web, filling)
    check_state(web, state)
    return is_inside(basic_pushes(web, filling)[1], state)


def pushes_to(web, filling, state):
    """The tuple of an integer and of the rows that lead to the state times it, or None."""
    check_web(web)
    check_filling(web, filling)
    check_state(web, state)
    basic, reach = basic_pushes(web, filling)
    if not is_inside(reach, state):
        return None
    count = web[0]
    # The marks behind a state tell of which basic pushes a sum of such rows is made.
    marked = [one[2] + unit_row(len(basic), at) for at, one in enumerate(basic)]
    solved = reduced_rows(marked)
    times, parts = parts_of(solved, state)
    rows = [[0] * len(web[2]) for _ in range(count)]
    for row, part in zip(solved, parts):
        for (steps, nudge, _), mark in zip(basic, row[count:]):
            rows[count - 1 - steps][nudge] += part * mark
    return times, rows


def shows_pushes(web, filling, state, value):
    """Whether any value is a tuple of an integer and of rows that lead to the state times it."""
    check_web(web)
    check_filling(web, filling)
    check_state(web, state)
    if not isinstance(value, tuple) or len(value) != 2:
        return False
    times, rows = value
    if not is_integer(times) or times < 1 or not are_push_rows(rows, len(web[2])):
        return False
    last = states_behind(web, filling, [0] * web[0], rows)[-1]
    return last == [times * number for number in state]


def all_numbers(filling):
    """The numbers of a filling in the sequence of the lines of its web."""
    numbers, strengths = filling
    return numbers + [number for row in strengths for number in row]


def filling_with(web, numbers):
    """The filling that gives the lines of a web these numbers, in their sequence."""
    rest = list(numbers)
    rows = []
    for many in [len(web[1])] + [len(nudge) for nudge in web[2]]:
        rows.append(rest[:many])
        rest = rest[many:]
    return rows[0], rows[1:]


def numbered_lines(web, filling):
    """The list of the lines, each as a tuple of its source, its target and its number."""
    numbers = all_numbers(filling)
    return [(source, target, number) for (source, target), number in zip(all_lines(web), numbers)]


def moved(count, lines, state, given):
    """The new state of `count` quantities, by numbered lines [7]."""
    # The sources are numbered so that each one has its value at its own place here.
    values = state + given
    new = [0] * count
    for source, target, number in lines:
        new[target] += number * values[source]
    return new


def states_behind(web, filling, state, rows):
    """The list of the states from the given one on, for arguments that are known to be right."""
    lines = numbered_lines(web, filling)
    states = [list(state)]
    for given in rows:
        states.append(moved(web[0], lines, states[-1], given))
    return states


def unit_row(many, place):
    """A row of so many integers with 1 at one place and 0 at the others."""
    row = [0] * many
    row[place] = 1
    return row


def basic_pushes(web, filling):
    """The tuple of a list of basic pushes and of the reduced rows of the reach.

    A basic push is a tuple `(steps, nudge, state)`: a push of 1 leads to the state if so many
    steps without pushes come behind it. Each state of the reach is a sum of multiples of these
    states in just one way.
    """
    count, _, nudges = web
    lines = numbered_lines(web, filling)
    start, still = [0] * count, [0] * len(nudges)
    pushes = [unit_row(len(nudges), at) for at in range(len(nudges))]
    waiting = [(0, at, moved(count, lines, start, given)) for at, given in enumerate(pushes)]
    basic, rows = [], []
    while waiting:
        steps, nudge, state = waiting.pop(0)
        longer = rows_with(rows, state)
        # A state that the ones ahead add up to leads only to such states: one step on, the
        # ones ahead lead to states that stand ahead, too. So there are never `count` steps.
        if len(longer) > len(rows):
            rows = longer
            basic.append((steps, nudge, state))
            waiting.append((steps + 1, nudge, moved(count, lines, state, still)))
    return basic, rows
