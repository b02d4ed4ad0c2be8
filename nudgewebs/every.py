"""What holds for every filling: the rows of forced quantities [9, 11]."""

from nudgewebs.checks import KINDS, check_kind, check_web
from nudgewebs.shapes import is_tuple_below
from nudgewebs.webs import target_rows


def reaches_every(web):
    """Whether every filling reaches all states: if nothing is left open for either kind."""
    check_web(web)
    return leaves_none_open(web)


def forcing_row(web, kind):
    """The forcing row with the least quantity, then the least source, at each place, or None."""
    check_web(web)
    check_kind(kind)
    rules = forcing_rules(web, kind)
    unforced = list(range(web[0]))
    row = []
    while unforced:
        forcing = least_sources(rules, unforced)
        if not forcing:
            return None
        quantity = min(list(forcing))
        row.append((forcing[quantity], quantity))
        unforced.remove(quantity)
    return row


def is_forcing_row(web, kind, value):
    """Whether any value is a forcing row of the kind."""
    check_web(web)
    check_kind(kind)
    if not isinstance(value, list):
        return False
    rules = forcing_rules(web, kind)
    unforced = list(range(web[0]))
    for one in value:
        if not is_tuple_below(one, len(rules), web[0]):
            return False
        source, quantity = one
        if forced_by(rules[source], unforced) != quantity:
            return False
        unforced.remove(quantity)
    return not unforced


def rounds(web, kind):
    """The lists of the quantities that can be forced at first, then next, and so on."""
    check_web(web)
    check_kind(kind)
    return forced_and_unforced(web, kind)[0]


def left_open(web, kind):
    """The ascending list of the quantities that are left open in the end."""
    check_web(web)
    check_kind(kind)
    return forced_and_unforced(web, kind)[1]


def forcing_rules(web, kind):
    """For each source the tuple of its aims and of the quantity that it never forces, or None."""
    rows = target_rows(web)
    if kind == "still":
        return [(row, None) for row in rows]
    own = [steady_rule(quantity, rows[quantity]) for quantity in range(web[0])]
    return own + [(row, None) for row in rows[web[0]:]]


def steady_rule(quantity, targets):
    """The tuple for a quantity and the kind steady: it is an aim of its own [9]."""
    if quantity in targets:
        return targets, quantity
    return sorted(targets + [quantity]), None


def forced_by(rule, unforced):
    """The quantity that a source with this rule can force while some are open, or None."""
    aims, barred = rule
    left = [aim for aim in aims if aim in unforced]
    if len(left) != 1 or left[0] == barred:
        return None
    return left[0]


def least_sources(rules, unforced):
    """A dict with the quantities that can be forced now, each with the least source for it."""
    forcing = {}
    for source, rule in enumerate(rules):
        quantity = forced_by(rule, unforced)
        if quantity is not None:
            forcing.setdefault(quantity, source)
    return forcing


def leaves_none_open(web):
    """Whether nothing is left open for either kind, for what is known to be a web."""
    return not any([forced_and_unforced(web, kind)[1] for kind in KINDS])


def forced_and_unforced(web, kind):
    """The tuple of the rounds and of the quantities that are left open, for a web and a kind."""
    return forced_from(forcing_rules(web, kind), list(range(web[0])))


def forced_from(rules, unforced):
    """The same tuple, if only some quantities are open at first."""
    done = []
    forcing = least_sources(rules, unforced)
    while forcing:
        done.append(sorted(forcing))
        unforced = [quantity for quantity in unforced if quantity not in forcing]
        forcing = least_sources(rules, unforced)
    return done, unforced
