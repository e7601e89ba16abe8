"""Lists of deeds that are performed on a panel, all or none."""

from railhouse.errors import RailError
from railhouse.panel import Panel


def perform(panel, deeds):
    """Perform the deeds in order and return their number; if one is refused, take back those before it."""
    return all_or_none(panel, deeds, _do)


def all_or_none(keeper, deeds, act):
    """Let `act` perform each deed on a panel or a desk, in order; if one is refused, take back those before it."""
    many = 0
    for deed in deeds:
        try:
            act(keeper, deed)
        except RailError:
            for _ in range(many):
                keeper.undo()
            raise
        many += 1
    return many


def replay(layout, deeds, *, flank=True):
    """Return a new panel on which the deeds were performed in order."""
    panel = Panel(layout, flank=flank)
    perform(panel, deeds)
    return panel


def _do(panel, deed):
    word = deed[0]
    train = deed[1]
    if word == "place":
        panel.place(train, deed[2], deed[3])
    elif word == "request":
        panel.request(train, deed[2])
    elif word == "advance":
        panel.advance(train)
    elif word == "release":
        panel.release(train)
    elif word == "cancel":
        panel.cancel(train)
    else:
        panel.withdraw(train)
