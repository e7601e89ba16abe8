"""Routes that can be set together: settings, blockers and phases."""

from railhouse.errors import RoutesClash, TooMany
from railhouse.routes import check_route

LIMIT = 10


def can_set(table, routes):
    """Tell whether the routes can be set together."""
    return _first_clash(table, _different(table, routes)) is None


def setting(table, routes):
    """Return all demands of the routes, and each claimed block with its route, both ascending."""
    chosen = _different(table, routes)
    found = _first_clash(table, chosen)
    if found is not None:
        first, second, reason = found
        raise RoutesClash(first, second, reason)
    positions = [demand for route in chosen for demand in table.demands(route)]
    owners = [(block, route) for route in chosen for block in table.claims(route)]
    return sorted(set(positions)), sorted(owners)


def blockers(table, routes, route):
    """Return the other routes of the list that clash with the route, ascending."""
    chosen = _different(table, routes)
    check_route(table, route)
    return [other for other in chosen if other != route and table.clash(other, route) is not None]


def greatest_setting(table, routes):
    """Return the largest part of the routes that can be set together, the least of several."""
    parts = _settings(table, _few(table, routes))
    return min([(-len(part), part) for part in parts])[1]


def count_settings(table, routes):
    """Return the number of parts of the routes that can be set together."""
    return len(_settings(table, _few(table, routes)))


def phases(table, routes):
    """Divide the routes into as few lists as possible whose routes can be set together."""
    chosen = _few(table, routes)
    foes = _foes(table, chosen)
    number = 0
    lists = _divide(chosen, foes, [], number)
    while lists is None:
        number += 1
        lists = _divide(chosen, foes, [], number)
    return lists


def _different(table, routes):
    """Return the different routes of the list, ascending, after a look at each entry."""
    for route in routes:
        check_route(table, route)
    return sorted(set(routes))


def _few(table, routes):
    """Return the different routes of a list that may hold at most LIMIT of them."""
    chosen = _different(table, routes)
    if len(chosen) > LIMIT:
        raise TooMany(len(chosen), LIMIT)
    return chosen


def _first_clash(table, chosen):
    """Return the least pair of routes that clash and their clash, or None."""
    for first in chosen:
        for second in chosen:
            reason = table.clash(first, second)
            if first < second and reason is not None:
                return first, second, reason
    return None


def _foes(table, chosen):
    return {route: blockers(table, chosen, route) for route in chosen}


def _settings(table, chosen):
    """Return all parts of the chosen routes that can be set together."""
    foes = _foes(table, chosen)
    parts = [[]]
    for route in chosen:
        parts = parts + [part + [route] for part in parts if _fits(foes, part, route)]
    return parts


def _fits(foes, part, route):
    return not any([other in foes[route] for other in part])


def _divide(left, foes, lists, number):
    """Share the routes that are left among at most `number` lists, or return None."""
    if not left:
        return lists
    route = left[0]
    for at in range(len(lists)):
        if _fits(foes, lists[at], route):
            found = _divide(left[1:], foes, lists[:at] + [lists[at] + [route]] + lists[at + 1:], number)
            if found is not None:
                return found
    if len(lists) < number:
        return _divide(left[1:], foes, lists + [[route]], number)
    return None
