"""Reading a text behind a net, line by line, up to the first fault."""

from mineroads.nets import (
    MOST_CLOSINGS, MOST_JUNCTIONS, MOST_ROADS, MOST_SPEEDS,
    Closing, Junction, Road, Speed, copy_net, has_junction, has_road,
)
from mineroads.texts import lines_of, number_of, signs_of, words_of

REMARK = "rem"

# The least and the greatest number at each place behind the first word.
FORMS = {
    "junction": ((1, 99), (0, 1000000)),
    "road": ((1, 99), (1, 99), (1, 99), (1, 1000000), (1, 2)),
    "speed": ((0, 10000), (0, 1000), (0, 1000), (0, 1000), (0, 1000)),
    "closed": ((1, 99), (0, 100000), (0, 100000)),
}

# A line's fault is its kind and the word's place.
NO_FAULT = (0, 0)
UNKNOWN_FIRST_WORD = (1, 1)
WRONG_WORD_COUNT = (2, 0)
NO_MORE_ROOM = (10, 0)


class Reading:
    """What came of a text: the net with it, or (kind is not 0) its first fault and the net without it."""

    def __init__(self, net, kind, line, word):
        self.net = net
        self.kind = kind
        self.line = line
        self.word = word


def read_text(net, text):
    # A later line's fault must leave nothing of the earlier lines behind: they go into a copy.
    grown = copy_net(net)
    for place, line in enumerate(lines_of(text)):
        fault = read_line(grown, words_of(line))
        if fault != NO_FAULT:
            return Reading(net, fault[0], place + 1, fault[1])
    return Reading(grown, 0, 0, 0)


def read_line(net, words):
    """Take what a line says into the net, or tell its fault."""
    if len(words) == 0 or words[0] == signs_of(REMARK):
        return NO_FAULT
    name = form_name(words[0])
    if name == "":
        return UNKNOWN_FIRST_WORD
    ranges = FORMS[name]
    if len(words) != len(ranges) + 1:
        return WRONG_WORD_COUNT
    numbers = [number_of(word) for word in words[1:]]
    outside = first_outside(numbers, ranges)
    if outside > 0:
        return (3, outside)
    return take_line(net, name, numbers)


def form_name(word):
    for name in FORMS:
        if word == signs_of(name):
            return name
    return ""


def first_outside(numbers, ranges):
    """The word's place of the first number that is not within its range, or 0.

    What is no number is below 0, and so outside every range.
    """
    for place, ends in enumerate(ranges):
        if numbers[place] < ends[0] or numbers[place] > ends[1]:
            return place + 2
    return 0


def take_line(net, name, numbers):
    if name == "junction":
        return take_junction(net, Junction(numbers[0], numbers[1]))
    if name == "road":
        return take_road(net, Road(numbers[0], numbers[1], numbers[2], numbers[3], numbers[4]))
    if name == "speed":
        return take_speed(net, Speed(numbers[0], numbers[1], numbers[2], numbers[3], numbers[4]))
    return take_closing(net, Closing(numbers[0], numbers[1], numbers[2]))


def take_junction(net, junction):
    if has_junction(net, junction.number):
        return (5, 2)
    if len(net.junctions) >= MOST_JUNCTIONS:
        return NO_MORE_ROOM
    net.junctions.append(junction)
    return NO_FAULT


def take_road(net, road):
    if has_road(net, road.number):
        return (5, 2)
    if not has_junction(net, road.a):
        return (9, 3)
    if not has_junction(net, road.b):
        return (9, 4)
    if road.a == road.b:
        return (6, 4)
    if len(net.roads) >= MOST_ROADS:
        return NO_MORE_ROOM
    net.roads.append(road)
    return NO_FAULT


def take_speed(net, speed):
    for other in net.speeds:
        if other.gradient >= speed.gradient:
            return (6, 2)
    if len(net.speeds) >= MOST_SPEEDS:
        return NO_MORE_ROOM
    net.speeds.append(speed)
    return NO_FAULT


def take_closing(net, closing):
    if not has_road(net, closing.road):
        return (9, 2)
    if closing.hi <= closing.lo:
        return (6, 4)
    if len(net.closings) >= MOST_CLOSINGS:
        return NO_MORE_ROOM
    net.closings.append(closing)
    return NO_FAULT
