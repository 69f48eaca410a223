"""How long a road takes, when one is anywhere at the earliest, and by which trip."""

from mineroads.nets import closings_of, find_junction

NOT_GONE = -1
FROM_A_TO_B = 0
FROM_B_TO_A = 1


class Step:
    """A road gone in one of its ways; its closings stand in the order of their beginnings."""

    def __init__(self, road, start, end, minutes, closings):
        self.road = road
        self.start = start
        self.end = end
        self.minutes = minutes
        self.closings = closings


def speed_for(net, rise, length):
    """The first speed whose gradient the road's own does not pass, or None."""
    for speed in net.speeds:
        if 1000 * rise <= speed.gradient * length:
            return speed
    return None


def metres_a_minute(speed, downwards, loaded):
    if downwards:
        return speed.down_loaded if loaded == 1 else speed.down
    return speed.up_loaded if loaded == 1 else speed.up


def road_start(road, way):
    return road.a if way == FROM_A_TO_B else road.b


def road_end(road, way):
    return road.b if way == FROM_A_TO_B else road.a


def road_minutes(net, road, way, loaded):
    """The minutes that a road takes in one way, or NOT_GONE."""
    if way == FROM_B_TO_A and road.ways == 1:
        return NOT_GONE
    climb = find_junction(net, road_end(road, way)).height - find_junction(net, road_start(road, way)).height
    speed = speed_for(net, abs(climb), road.length)
    if speed is None:
        return NOT_GONE
    pace = metres_a_minute(speed, climb < 0, loaded)
    if pace == 0:
        return NOT_GONE
    # One less than the divisor more, so that the whole division rounds up.
    return (road.length + 100 * pace - 1) // (100 * pace)


def closing_start(closing):
    return closing.lo


def road_step(net, road, way, loaded):
    """The step of a road in one way, or None if it isn't gone so."""
    minutes = road_minutes(net, road, way, loaded)
    if minutes == NOT_GONE:
        return None
    closings = sorted(closings_of(net, road.number), key=closing_start)
    return Step(road.number, road_start(road, way), road_end(road, way), minutes, closings)


def all_steps(net, loaded):
    """Every step there is, in the order of the roads, of one road from a to b before from b to a."""
    steps = []
    for road in net.roads:
        for way in (FROM_A_TO_B, FROM_B_TO_A):
            step = road_step(net, road, way, loaded)
            if step is not None:
                steps.append(step)
    return steps


def can_begin(step, minute):
    return all([minute + step.minutes <= closing.lo or closing.hi <= minute for closing in step.closings])


def first_begin(step, minute):
    """The first minute from the one told on at which the step's road can be begun.

    One walk through the closings is enough: who is done before one begins is done before all
    the later ones too, and who begins after one's end stays so however much longer one waits.
    """
    begin = minute
    for closing in step.closings:
        if begin + step.minutes > closing.lo and begin < closing.hi:
            begin = closing.hi
    return begin


def arrival(step, minute):
    return first_begin(step, minute) + step.minutes


def earliest_minutes(steps, start, minute):
    """The earliest minute of each junction that has one, by its number.

    The steps are tried until none makes anything earlier: then each road alone shows that the
    minutes are right. To be somewhere earlier never makes one arrive later, so it is enough to
    go on from the earliest minutes.
    """
    earliest = {start: minute}
    changed = True
    while changed:
        changed = False
        for step in steps:
            if step.start in earliest:
                comes = arrival(step, earliest[step.start])
                if step.end not in earliest or comes < earliest[step.end]:
                    earliest[step.end] = comes
                    changed = True
    return earliest


def last_step(steps, earliest, place):
    """The first step by which one is at the place at just its earliest minute."""
    for step in steps:
        if step.end == place and step.start in earliest:
            if arrival(step, earliest[step.start]) == earliest[place]:
                return step
    return None


def route_steps(steps, earliest, start, goal):
    """The steps of the trip from start to goal, found from its end; goal has an earliest minute.

    Each step takes a minute at least, so the way back comes to ever earlier minutes and ends.
    """
    found = []
    place = goal
    while place != start:
        step = last_step(steps, earliest, place)
        found.append(step)
        place = step.start
    found.reverse()
    return found
