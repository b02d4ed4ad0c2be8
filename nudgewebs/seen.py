"""What the nudges show of the states if nothing is pushed, and what stays hidden [15]."""

from nudgewebs.checks import check_filling, check_state, check_web
from nudgewebs.covers import greatest_size
from nudgewebs.errors import InvalidNumber
from nudgewebs.every import leaves_none_open
from nudgewebs.fillings import basic_pushes, states_behind
from nudgewebs.shapes import MOST_ROWS, is_number_below
from nudgewebs.spaces import upright_rows
from nudgewebs.webs import turned


def shown(web, filling, state, number):
    """The list of what the nudges show at a state, behind one step, and so on, so many times."""
    check_web(web)
    check_filling(web, filling)
    check_state(web, state)
    if not is_number_below(number, MOST_ROWS + 1):
        raise InvalidNumber(f"not an integer from 0 to {MOST_ROWS}")
    still = [0] * len(web[2])
    states = states_behind(web, filling, state, [still] * number)
    return [shown_at(web, filling, one) for one in states[:number]]


def hidden_dimension(web, filling):
    """The dimension of the space of the hidden states."""
    return len(hidden_rows(web, filling))


def hidden_rows(web, filling):
    """The reduced rows of the space of the hidden states."""
    other = turned_filling(web, filling)
    return upright_rows(basic_pushes(turned(web), other)[1], web[0])


def turned_filling(web, filling):
    """The filling of the turned web that gives each turned pair the number of the pair."""
    check_web(web)
    check_filling(web, filling)
    numbers, strengths = filling
    moved = sorted([(target, source, number) for (source, target), number in zip(web[1], numbers)])
    return [number for _, _, number in moved], [list(row) for row in strengths]


def sees_some(web):
    """Whether with some filling only the state of all 0 is hidden."""
    check_web(web)
    return greatest_size(turned(web)) == web[0]


def sees_every(web):
    """Whether with every filling only the state of all 0 is hidden."""
    check_web(web)
    return leaves_none_open(turned(web))


def shown_at(web, filling, state):
    """The list of what each nudge shows at a state."""
    found = []
    for nudge, row in zip(web[2], filling[1]):
        found.append(sum([number * state[target] for target, number in zip(nudge, row)]))
    return found
