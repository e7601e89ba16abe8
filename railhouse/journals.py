"""Lists of deeds that are performed on a desk, all or none."""

from railhouse.deeds import all_or_none
from railhouse.desk import Desk


def replay_desk(clock, deeds):
    """Return a new desk on which the deeds were performed in order."""
    desk = Desk(clock)
    attempt(desk, deeds)
    return desk


def attempt(desk, deeds):
    """Perform the deeds in order and return their number; if one is refused, take back those before it."""
    return all_or_none(desk, deeds, _do)


def _do(desk, deed):
    word = deed[0]
    if word == "step":
        desk.step(deed[1])
    elif word == "delay":
        desk.delay(deed[1], deed[2], deed[3])
    else:
        desk.exchange(deed[1], deed[2])
