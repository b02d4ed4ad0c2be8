"""The errors of parameters [3]: each function raises one unless its last argument is right.

The arguments ahead of the last one must have been checked before.
"""

from nudgewebs.errors import InvalidFilling, InvalidGiven, InvalidHill, InvalidKind, InvalidLinks
from nudgewebs.errors import InvalidNudge, InvalidOrder, InvalidQuantity, InvalidSource
from nudgewebs.errors import InvalidState, InvalidTargets, InvalidWeb
from nudgewebs.shapes import are_all_below, are_ascending_tuples, are_integers, are_push_rows
from nudgewebs.shapes import are_targets, has_filling_shape, has_hill_shape, has_web_shape
from nudgewebs.shapes import is_number_below

KINDS = ("still", "steady")


def check_web(web):
    if not has_web_shape(web):
        raise InvalidWeb("not a web")


def check_source(web, source):
    many = web[0] + len(web[2])
    if not is_number_below(source, many):
        raise InvalidSource(f"not the number of one of {many} sources")


def check_quantity(web, quantity):
    if not is_number_below(quantity, web[0]):
        raise InvalidQuantity(f"not the number of one of {web[0]} quantities")


def check_targets(web, targets):
    if not are_targets(targets, web[0]):
        raise InvalidTargets(f"not an ascending list of one or more of {web[0]} quantities")


def check_nudge(web, nudge):
    if not is_number_below(nudge, len(web[2])):
        raise InvalidNudge(f"not the number of one of {len(web[2])} nudges")


def check_order(web, order):
    if not are_all_below(order, web[0]):
        raise InvalidOrder(f"not a list of all {web[0]} quantities, each once")


def check_links(web, second, links):
    if not are_ascending_tuples(links, web[0], second[0]):
        raise InvalidLinks("not an ascending list of tuples of a quantity of each web")


def check_kind(kind):
    # Python can be told to stop where bytes are compared with strings.
    if not isinstance(kind, str) or kind not in KINDS:
        raise InvalidKind("neither still nor steady")


def check_filling(web, filling):
    if not has_filling_shape(web, filling):
        raise InvalidFilling("not a filling of the web")


def check_state(web, state):
    if not are_integers(state, web[0]):
        raise InvalidState(f"not a list of {web[0]} integers")


def check_given(web, given):
    if not are_integers(given, len(web[2])):
        raise InvalidGiven(f"not a list of {len(web[2])} integers")


def check_rows(web, rows):
    if not are_push_rows(rows, len(web[2])):
        raise InvalidGiven(f"not a list of 0 to 60 lists of {len(web[2])} integers")


def check_hill(web, hill):
    if not has_hill_shape(web, hill):
        raise InvalidHill("not a hill of the web")
