"""What each call answers, and what it changes."""

from mineroads.mines import Mine
from mineroads.nets import (
    MOST_CLOSINGS, Closing, closings_of, find_road, has_junction, has_road, with_closing, without_closings,
)
from mineroads.reading import read_text
from mineroads.texts import written_net
from mineroads.travel import (
    FROM_A_TO_B, FROM_B_TO_A, all_steps, earliest_minutes, first_begin, road_minutes, route_steps,
)

DONE = 0
OUTSIDE = -1
NO_JUNCTION = -2
NO_ROAD = -3
NOTHING_BEFORE = -4
ENDS_TOO_SOON = -5
TOO_MANY_CLOSINGS = -6
NOT_REACHED = -7

NO_MINUTE = -1

MOST_SIGNS = 2000


def is_name(number):
    return 1 <= number <= 99


def is_minute(number):
    return 0 <= number <= 100000


def is_load(number):
    return 0 <= number <= 1


def is_text(row):
    return len(row) <= MOST_SIGNS and all([0 <= number <= 255 for number in row])


def reading_answer(reading):
    if reading.kind != 0:
        return [DONE, reading.kind, reading.line, reading.word]
    return [DONE, 0, len(reading.net.junctions), len(reading.net.roads)]


def answer_read(mine, given):
    if not is_text(given):
        return [OUTSIDE]
    reading = read_text(mine.net, given)
    if reading.kind == 0:
        mine.change(reading.net)
    return reading_answer(reading)


def answer_look(mine, given):
    if not is_text(given):
        return [OUTSIDE]
    return reading_answer(read_text(mine.net, given))


def answer_write(mine, given):
    return [DONE] + written_net(mine.net)


def answer_undo(mine, given):
    if not mine.can_undo():
        return [NOTHING_BEFORE]
    mine.undo()
    return [DONE]


def answer_close(mine, given):
    n = given[0]
    lo = given[1]
    hi = given[2]
    if not (is_name(n) and is_minute(lo) and is_minute(hi)):
        return [OUTSIDE]
    if not has_road(mine.net, n):
        return [NO_ROAD]
    if hi <= lo:
        return [ENDS_TOO_SOON]
    if len(mine.net.closings) >= MOST_CLOSINGS:
        return [TOO_MANY_CLOSINGS]
    mine.change(with_closing(mine.net, Closing(n, lo, hi)))
    return [DONE]


def answer_free(mine, given):
    n = given[0]
    if not is_name(n):
        return [OUTSIDE]
    if not has_road(mine.net, n):
        return [NO_ROAD]
    count = len(closings_of(mine.net, n))
    mine.change(without_closings(mine.net, n))
    return [DONE, count]


def answer_road(mine, given):
    n = given[0]
    loaded = given[1]
    if not (is_name(n) and is_load(loaded)):
        return [OUTSIDE]
    if not has_road(mine.net, n):
        return [NO_ROAD]
    road = find_road(mine.net, n)
    there = road_minutes(mine.net, road, FROM_A_TO_B, loaded)
    back = road_minutes(mine.net, road, FROM_B_TO_A, loaded)
    return [DONE, road.a, road.b, there, back]


def answer_times(mine, given):
    a = given[0]
    t = given[1]
    loaded = given[2]
    if not (is_name(a) and is_minute(t) and is_load(loaded)):
        return [OUTSIDE]
    if not has_junction(mine.net, a):
        return [NO_JUNCTION]
    earliest = earliest_minutes(all_steps(mine.net, loaded), a, t)
    return [DONE] + [earliest.get(junction.number, NO_MINUTE) for junction in mine.net.junctions]


def answer_route(mine, given):
    a = given[0]
    b = given[1]
    t = given[2]
    loaded = given[3]
    if not (is_name(a) and is_name(b) and is_minute(t) and is_load(loaded)):
        return [OUTSIDE]
    if not (has_junction(mine.net, a) and has_junction(mine.net, b)):
        return [NO_JUNCTION]
    steps = all_steps(mine.net, loaded)
    earliest = earliest_minutes(steps, a, t)
    if b not in earliest:
        return [NOT_REACHED]
    answer = [DONE, earliest[b]]
    for step in route_steps(steps, earliest, a, b):
        answer.extend([step.road, first_begin(step, earliest[step.start])])
    return answer


HANDLERS = {
    0: answer_read,
    1: answer_look,
    2: answer_write,
    3: answer_undo,
    4: answer_close,
    5: answer_free,
    6: answer_road,
    7: answer_times,
    8: answer_route,
}


def answer_all(cut_calls):
    """The answers to calls on one new object; a call is its number and the numbers given with it."""
    mine = Mine()
    told = []
    for number, given in cut_calls:
        handler = HANDLERS[number]
        told.append(handler(mine, given))
    return told
