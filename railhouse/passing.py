"""The events of a plan as deeds on a panel."""

from railhouse.deeds import perform
from railhouse.errors import RailError
from railhouse.plans import check_event
from railhouse.ways import heading


def panel_deeds(plan, train, number):
    """Return the deeds for a panel that belong to the event."""
    check_event(plan, (train, number))
    runner = plan.train_of(train)
    way = runner.blocks()
    if number == 0:
        return [("place", train, way[0], heading(plan.layout, way))]
    # No block is released by an entry, so those of a later step have the deeds of the head alone.
    if number % 2 == 0 and number < runner.last:
        return [("request", train, (way[number // 2],)), ("advance", train)]
    freed = [step for step in range(runner.steps) if plan.stay(train, step)[1] == number]
    if number == runner.last:
        return [("release", train)] * (len(freed) - 1) + [("withdraw", train)]
    return [("release", train)] * len(freed)


def guarded_step(drive, panel, train):
    """Make the step of the train in the drive and its deeds on the panel, or neither; return the event's number."""
    number = drive.step(train)
    try:
        perform(panel, panel_deeds(drive.plan, train, number))
    except RailError:
        drive.back()
        raise
    return number
