"""Sites: the trains that visit some blocks, those that are there at once, and the tracks that they need."""

from railhouse.covers import fewest_lists, greatest_crowd
from railhouse.layout import check_blocks
from railhouse.pasts import driving_to, pasts, precedes
from railhouse.rings import check_alive, done_after


def visits(plan, blocks):
    """Return `(train, entry, release)` for each train that visits the site, ascending."""
    check_blocks(plan.layout, blocks)
    found = []
    for train in range(plan.size):
        way = plan.train_of(train).blocks()
        steps = [step for step in range(len(way)) if way[step] in blocks]
        if steps:
            entry, _ = plan.stay(train, steps[0])
            _, release = plan.stay(train, steps[-1])
            found.append((train, entry, release))
    return found


def present(plan, blocks, driving):
    """Return the trains that are at the site after the driving, ascending."""
    found = visits(plan, blocks)
    done = done_after(plan, driving)
    return [train for train, entry, release in found if entry < done[train] <= release]


def crowd(plan, blocks):
    """Return as many trains as can be at the site at once, and a driving after which they are."""
    found = visits(plan, blocks)
    check_alive(plan)
    past = pasts(plan)
    chosen = [found[at] for at in greatest_crowd(_later(past, found))]
    entries = [(train, entry) for train, entry, _ in chosen]
    return [train for train, _, _ in chosen], driving_to(plan, past, entries)


def tracks(plan, blocks):
    """Divide the trains that visit the site into as few lists as possible whose visits follow each other."""
    found = visits(plan, blocks)
    check_alive(plan)
    lists = fewest_lists(_later(pasts(plan), found))
    return sorted([[found[at][0] for at in row] for row in lists])


def _later(past, found):
    """Return for each visit the numbers of the visits that begin when it has ended."""
    return [[at for at in range(len(found)) if _follows(past, found[at], visit)] for visit in found]


def _follows(past, visit, earlier):
    train, entry, _ = visit
    other, _, release = earlier
    return precedes(past, (other, release), (train, entry))


def fits_tracks(plan, blocks, lists):
    """Tell whether each visiting train stands once in the lists, no other number does, and the visits follow."""
    found = {visit[0]: visit for visit in visits(plan, blocks)}
    check_alive(plan)
    if sorted([train for row in lists for train in row]) != list(found):
        return False
    past = pasts(plan)
    pairs = [(left, right) for row in lists for left, right in zip(row, row[1:])]
    return all([_follows(past, found[right], found[left]) for left, right in pairs])
