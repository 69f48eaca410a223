"""Trips that are told, and what the loss of a road changes."""

from mineroads.travel import can_begin, earliest_minutes

NONE_FAILED = -1


class Trip:
    """How far a told trip goes: where and when it ends, or (failed is 0 or more) its first step that can't be made."""

    def __init__(self, place, minute, failed):
        self.place = place
        self.minute = minute
        self.failed = failed


def step_from(steps, road, place):
    """The step by which the road is gone from a junction, or None; a road's ends are unlike, so there's one at most."""
    for step in steps:
        if step.road == road and step.start == place:
            return step
    return None


def follow_trip(steps, start, minute, numbers):
    """Go a trip that is told two by two numbers: a road, the minute at which it's begun."""
    place = start
    now = minute
    for count in range(len(numbers) // 2):
        begin = numbers[2 * count + 1]
        step = step_from(steps, numbers[2 * count], place)
        if step is None or begin < now or not can_begin(step, begin):
            return Trip(place, now, count)
        place = step.end
        now = begin + step.minutes
    return Trip(place, now, NONE_FAILED)


def steps_without(steps, road):
    return [step for step in steps if step.road != road]


def needed_roads(roads, steps, start):
    """The roads without which some junction can't be reached any more from the start at minute 0.

    A road fewer never makes a junction reached that wasn't, so it's enough to count them.
    """
    reached = len(earliest_minutes(steps, start, 0))
    found = []
    for road in roads:
        if len(earliest_minutes(steps_without(steps, road.number), start, 0)) < reached:
            found.append(road.number)
    return found
