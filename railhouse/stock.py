"""Stock: how many sets the workings need, and which working goes on as which."""

from railhouse.errors import BadWorking


def deficit(workings, place, *, turning=0):
    """Return the greatest surplus of the place and its earliest moment, or `(0, None)`."""
    _check_workings(workings)
    return _greatest_surplus(_changes(workings, turning).get(place, []))


def least_sets(workings, *, turning=0):
    """Return `(place, number)` for each place that has a deficit, ascending."""
    _check_workings(workings)
    changes = _changes(workings, turning)
    found = [(place, _greatest_surplus(changes[place])[0]) for place in sorted(list(changes))]
    return [(place, number) for place, number in found if number > 0]


def link(workings, *, turning=0):
    """Return links that leave each place with the fewest new sets, ascending."""
    _check_workings(workings)
    waiting = _arrivals(workings)
    links = []
    for start, number, origin in _departures(workings):
        ends = waiting.get(origin, [])
        if ends and ends[0][0] + turning <= start:
            _, first = ends.pop(0)
            links.append((first, number))
    return sorted(links)


def is_linking(workings, links, *, turning=0):
    """Tell whether each link joins two workings that one set can make, and no set is used twice."""
    _check_workings(workings)
    firsts = [first for first, _ in links]
    seconds = [second for _, second in links]
    if len(set(firsts)) < len(links) or len(set(seconds)) < len(links):
        return False
    return all([_may_link(workings, first, second, turning) for first, second in links])


def _check_workings(workings):
    for index, (_, _, start, end) in enumerate(workings):
        if end <= start:
            raise BadWorking(index)


def _changes(workings, turning):
    """Return for each place the changes of its surplus as pairs `(moment, change)`."""
    changes = {}
    for origin, goal, start, end in workings:
        changes.setdefault(origin, []).append((start, 1))
        changes.setdefault(goal, []).append((end + turning, -1))
    return changes


def _greatest_surplus(changes):
    """Return the greatest surplus and its earliest moment, or `(0, None)`."""
    greatest, at = 0, None
    surplus = 0
    # At one moment the arrivals come first, so no surplus is seen that the end of the moment does not have.
    for moment, change in sorted(changes):
        surplus += change
        if surplus > greatest:
            greatest, at = surplus, moment
    return greatest, at


def _arrivals(workings):
    """Return for each goal its workings as pairs `(end, number)`, ascending."""
    found = {}
    for end, number, goal in sorted([(row[3], number, row[1]) for number, row in enumerate(workings)]):
        found.setdefault(goal, []).append((end, number))
    return found


def _departures(workings):
    """Return `(start, number, origin)` for each working, ascending."""
    return sorted([(row[2], number, row[0]) for number, row in enumerate(workings)])


def _may_link(workings, first, second, turning):
    """Tell whether both are workings and the set of the first one can go on as the second one."""
    for number in (first, second):
        if number < 0 or number >= len(workings):
            return False
    _, goal, _, end = workings[first]
    origin, _, start, _ = workings[second]
    return goal == origin and end + turning <= start
