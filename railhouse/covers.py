"""Things of which some end before others begin: as few lists as possible, and as many at once as possible.

The things are numbered from 0, and `later` has one list for each of them: the things that begin when it has ended.
"""


def fewest_lists(later):
    """Divide the things into as few lists as possible in each of which one ends before the next one begins."""
    ahead = _aheads(later)
    lists = []
    for first in range(len(later)):
        if ahead[first] is None:
            row = [first]
            while row[-1] in ahead:
                row.append(ahead.index(row[-1]))
            lists.append(row)
    return lists


def greatest_crowd(later):
    """Return as many things as possible of which none ends before another one begins, ascending."""
    ahead = _aheads(later)
    # Konig's theorem: begin with the last thing of each list; mark what may follow a thing that is reached, and
    # reach the thing ahead of what is marked. One thing of each list is then reached and not marked.
    reached = [thing for thing in range(len(later)) if thing not in ahead]
    marked = []
    at = 0
    while at < len(reached):
        found = [thing for thing in later[reached[at]] if thing not in marked]
        marked = marked + found
        reached = reached + [ahead[thing] for thing in found]
        at += 1
    return sorted([thing for thing in reached if thing not in marked])


def _aheads(later):
    """Return for each thing the one directly ahead of it in its list, or None, with as few lists as possible."""
    ahead = [None] * len(later)
    for thing in range(len(later)):
        _follow(later, ahead, thing, {})
    return ahead


def _follow(later, ahead, thing, tried):
    """Give the thing a follower, perhaps that of another thing which finds a new one; tell whether it has one."""
    for follower in later[thing]:
        if follower not in tried:
            tried[follower] = True
            if ahead[follower] is None or _follow(later, ahead, ahead[follower], tried):
                ahead[follower] = thing
                return True
    return False
