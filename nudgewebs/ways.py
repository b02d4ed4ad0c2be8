"""Ways from the nudges to the quantities, and rooms of quantities that lead to one another [12]."""

from nudgewebs.checks import check_quantity, check_web
from nudgewebs.webs import source_rows, target_rows


def reached(web):
    """The ascending list of the quantities that are reached."""
    check_web(web)
    behind = reached_quantities(web)
    return [quantity for quantity in range(web[0]) if quantity in behind]


def unreached(web):
    """The ascending list of the quantities that are not reached."""
    check_web(web)
    behind = reached_quantities(web)
    return [quantity for quantity in range(web[0]) if quantity not in behind]


def way_to(web, quantity):
    """The tuple of a nudge and the shortest way that leads to a quantity, or None."""
    check_web(web)
    check_quantity(web, quantity)
    lengths = lengths_to(web, quantity)
    starts = []
    for nudge, targets in enumerate(web[2]):
        starts.extend([(lengths[target], nudge, target) for target in targets if target in lengths])
    if not starts:
        return None
    length, nudge, first = min(starts)
    rows = target_rows(web)
    way = [first]
    while length > 1:
        length -= 1
        way.append(min([target for target in rows[way[-1]] if lengths.get(target) == length]))
    return nudge, way


def rooms(web):
    """The ascending list of the rooms, each an ascending list of quantities."""
    check_web(web)
    return all_rooms(web)


def first_rooms(web):
    """The ascending list of the rooms into which no pair leads from another one."""
    check_web(web)
    found = all_rooms(web)
    entered = [target for source, target in web[1] if not are_in_one(found, source, target)]
    return [room for room in found if not any([quantity in entered for quantity in room])]


def quantities_behind(rows, quantities):
    """A dict with some quantities and all those to which pairs lead from them, by target rows."""
    behind = {}
    waiting = list(quantities)
    while waiting:
        quantity = waiting.pop()
        if quantity not in behind:
            behind[quantity] = True
            waiting.extend(rows[quantity])
    return behind


def reached_quantities(web):
    """A dict with the quantities that are reached."""
    pushed = [target for nudge in web[2] for target in nudge]
    return quantities_behind(target_rows(web), pushed)


def lengths_to(web, quantity):
    """A dict of the quantities from which pairs lead to this one, or which are it, each with the
    fewest quantities of such a row, both ends counted."""
    rows = source_rows(web)
    lengths = {quantity: 1}
    latest = [quantity]
    length = 1
    while latest:
        length += 1
        sources = [source for one in latest for source in rows[one] if source < web[0]]
        latest = sorted(set([source for source in sources if source not in lengths]))
        lengths.update({source: length for source in latest})
    return lengths


def all_rooms(web):
    """The ascending list of the rooms, for what is known to be a web."""
    rows = target_rows(web)
    behind = [quantities_behind(rows, [quantity]) for quantity in range(web[0])]
    found = []
    for quantity in range(web[0]):
        room = [other for other in list(behind[quantity]) if quantity in behind[other]]
        if quantity == min(room):
            found.append(sorted(room))
    return found


def are_in_one(found, quantity, other):
    """Whether two quantities are in one of the rooms."""
    return any([quantity in room and other in room for room in found])
