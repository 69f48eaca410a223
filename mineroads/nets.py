"""A net: its junctions, roads, speeds and closings, in the order in which they were told.

A junction, road, speed or closing never changes once it is made, so several nets may share one.
"""

MOST_JUNCTIONS = 10
MOST_ROADS = 20
MOST_SPEEDS = 6
MOST_CLOSINGS = 20


class Junction:
    def __init__(self, number, height):
        self.number = number
        self.height = height

    def row(self):
        return [self.number, self.height]


class Road:
    def __init__(self, number, a, b, length, ways):
        self.number = number
        self.a = a
        self.b = b
        self.length = length
        self.ways = ways

    def row(self):
        return [self.number, self.a, self.b, self.length, self.ways]


class Speed:
    def __init__(self, gradient, up, up_loaded, down, down_loaded):
        self.gradient = gradient
        self.up = up
        self.up_loaded = up_loaded
        self.down = down
        self.down_loaded = down_loaded

    def row(self):
        return [self.gradient, self.up, self.up_loaded, self.down, self.down_loaded]


class Closing:
    def __init__(self, road, lo, hi):
        self.road = road
        self.lo = lo
        self.hi = hi

    def row(self):
        return [self.road, self.lo, self.hi]


class Net:
    def __init__(self, junctions, roads, speeds, closings):
        self.junctions = junctions
        self.roads = roads
        self.speeds = speeds
        self.closings = closings


def empty_net():
    return Net([], [], [], [])


def copy_net(net):
    return Net(list(net.junctions), list(net.roads), list(net.speeds), list(net.closings))


def find_junction(net, number):
    for junction in net.junctions:
        if junction.number == number:
            return junction
    return None


def find_road(net, number):
    for road in net.roads:
        if road.number == number:
            return road
    return None


def has_junction(net, number):
    return find_junction(net, number) is not None


def has_road(net, number):
    return find_road(net, number) is not None


def closings_of(net, number):
    return [closing for closing in net.closings if closing.road == number]


def with_closing(net, closing):
    changed = copy_net(net)
    changed.closings.append(closing)
    return changed


def without_closings(net, number):
    changed = copy_net(net)
    changed.closings = [closing for closing in net.closings if closing.road != number]
    return changed


def counted_rows(parts):
    """How many parts there are, and the numbers of each."""
    told = [len(parts)]
    for part in parts:
        told.extend(part.row())
    return told


def net_numbers(net):
    return (counted_rows(net.junctions) + counted_rows(net.roads)
            + counted_rows(net.speeds) + counted_rows(net.closings))
