"""What each exchange in a plan does to the lateness of its promises."""

from railhouse.errors import NotAlive
from railhouse.exchanges import exchange, places_of
from railhouse.promises import check_promises, greatest_lateness


def exchange_effects(clock, promises, *, late=False):
    """Return `(block, place, lateness)` for each exchange that gives an alive plan, ascending."""
    check_promises(clock.plan, promises)
    found = []
    for block, place in places_of(clock.plan):
        try:
            changed = clock.over(exchange(clock.plan, block, place))
        except NotAlive:
            continue
        found.append((block, place, greatest_lateness(changed, promises, late=late)))
    return found


def best_exchange(clock, promises, *, late=False):
    """Return the first effect with the least lateness, or None if no exchange makes the lateness less."""
    effects = exchange_effects(clock, promises, late=late)
    least = min([(lateness, block, place) for block, place, lateness in effects], default=None)
    if least is None or least[0] >= greatest_lateness(clock, promises, late=late):
        return None
    lateness, block, place = least
    return block, place, lateness
