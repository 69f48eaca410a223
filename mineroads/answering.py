"""What each call answers, and what it changes."""

from mineroads.mines import Mine
from mineroads.nets import (
    MOST_CLOSINGS, Closing, closings_of, find_road, has_junction, has_road, net_numbers, with_closing,
    without_closings,
)
from mineroads.ramps import Surface, cell_levels, ramp_cells
from mineroads.reading import read_text
from mineroads.refusals import (
    DONE, ENDS_TOO_SOON, MOST_HEIGHTS, MOST_TABLE_NUMBERS, MOST_TRIP_NUMBERS, NOTHING_BEFORE, NO_CELL, NO_JUNCTION,
    NO_ROAD, NO_WAY, OUTSIDE, TOO_MANY_CLOSINGS, WRONG_COUNT,
    is_cell, is_load, is_member, is_minute, is_name, is_nx, is_row, is_stay, is_text, is_way,
)
from mineroads.texts import written_net
from mineroads.travel import (
    FROM_A_TO_B, FROM_B_TO_A, all_steps, earliest_minutes, first_begin, road_minutes, road_step, route_steps,
)
from mineroads.trips import follow_trip, needed_roads, steps_without

EMPTY = 0
LOADED = 1

NO_MINUTE = -1


def minutes_in_order(net, earliest):
    """Each junction's earliest minute, in the junctions' order."""
    return [earliest.get(junction.number, NO_MINUTE) for junction in net.junctions]


def reading_answer(reading):
    if reading.kind != 0:
        return [DONE, reading.kind, reading.line, reading.word]
    return [DONE, 0, len(reading.net.junctions), len(reading.net.roads)]


def answer_read(mine, given):
    if not is_text(given):
        return [OUTSIDE]
    reading = read_text(mine.net, given)
    if reading.kind == 0:
        mine.change(reading.net)
    return reading_answer(reading)


def answer_look(mine, given):
    if not is_text(given):
        return [OUTSIDE]
    return reading_answer(read_text(mine.net, given))


def answer_write(mine, given):
    return [DONE] + written_net(mine.net)


def answer_undo(mine, given):
    if not mine.can_undo():
        return [NOTHING_BEFORE]
    mine.undo()
    return [DONE]


def answer_close(mine, given):
    n = given[0]
    lo = given[1]
    hi = given[2]
    if not (is_name(n) and is_minute(lo) and is_minute(hi)):
        return [OUTSIDE]
    if not has_road(mine.net, n):
        return [NO_ROAD]
    if hi <= lo:
        return [ENDS_TOO_SOON]
    if len(mine.net.closings) >= MOST_CLOSINGS:
        return [TOO_MANY_CLOSINGS]
    mine.change(with_closing(mine.net, Closing(n, lo, hi)))
    return [DONE]


def answer_free(mine, given):
    n = given[0]
    if not is_name(n):
        return [OUTSIDE]
    if not has_road(mine.net, n):
        return [NO_ROAD]
    count = len(closings_of(mine.net, n))
    mine.change(without_closings(mine.net, n))
    return [DONE, count]


def answer_road(mine, given):
    n = given[0]
    loaded = given[1]
    if not (is_name(n) and is_load(loaded)):
        return [OUTSIDE]
    if not has_road(mine.net, n):
        return [NO_ROAD]
    road = find_road(mine.net, n)
    there = road_minutes(mine.net, road, FROM_A_TO_B, loaded)
    back = road_minutes(mine.net, road, FROM_B_TO_A, loaded)
    return [DONE, road.a, road.b, there, back]


def answer_times(mine, given):
    a = given[0]
    t = given[1]
    loaded = given[2]
    if not (is_name(a) and is_minute(t) and is_load(loaded)):
        return [OUTSIDE]
    if not has_junction(mine.net, a):
        return [NO_JUNCTION]
    earliest = earliest_minutes(all_steps(mine.net, loaded), a, t)
    return [DONE] + minutes_in_order(mine.net, earliest)


def answer_route(mine, given):
    a = given[0]
    b = given[1]
    t = given[2]
    loaded = given[3]
    if not (is_name(a) and is_name(b) and is_minute(t) and is_load(loaded)):
        return [OUTSIDE]
    if not (has_junction(mine.net, a) and has_junction(mine.net, b)):
        return [NO_JUNCTION]
    steps = all_steps(mine.net, loaded)
    earliest = earliest_minutes(steps, a, t)
    if b not in earliest:
        return [NO_WAY]
    answer = [DONE, earliest[b]]
    for step in route_steps(steps, earliest, a, b):
        answer.extend([step.road, first_begin(step, earliest[step.start])])
    return answer


def answer_check(mine, given):
    a = given[0]
    t = given[1]
    loaded = given[2]
    numbers = given[3:]
    if not (is_name(a) and is_minute(t) and is_load(loaded) and is_row(numbers, MOST_TRIP_NUMBERS)):
        return [OUTSIDE]
    if not has_junction(mine.net, a):
        return [NO_JUNCTION]
    if len(numbers) % 2 == 1:
        return [WRONG_COUNT]
    trip = follow_trip(all_steps(mine.net, loaded), a, t, numbers)
    if trip.failed >= 0:
        return [DONE, 0, trip.failed]
    return [DONE, 1, trip.place, trip.minute]


def answer_table(mine, given):
    a = given[0]
    t = given[1]
    loaded = given[2]
    numbers = given[3:]
    if not (is_name(a) and is_minute(t) and is_load(loaded) and is_row(numbers, MOST_TABLE_NUMBERS)):
        return [OUTSIDE]
    if not has_junction(mine.net, a):
        return [NO_JUNCTION]
    if len(numbers) != len(mine.net.junctions):
        return [WRONG_COUNT]
    earliest = earliest_minutes(all_steps(mine.net, loaded), a, t)
    # No minute is -1, so that 1 more is the 0 that a table tells for it.
    right = [minute + 1 for minute in minutes_in_order(mine.net, earliest)]
    return [DONE, 1 if numbers == right else 0]


def answer_without(mine, given):
    n = given[0]
    a = given[1]
    t = given[2]
    loaded = given[3]
    if not (is_name(n) and is_name(a) and is_minute(t) and is_load(loaded)):
        return [OUTSIDE]
    if not has_road(mine.net, n):
        return [NO_ROAD]
    if not has_junction(mine.net, a):
        return [NO_JUNCTION]
    steps = all_steps(mine.net, loaded)
    earliest = earliest_minutes(steps, a, t)
    later = earliest_minutes(steps_without(steps, n), a, t)
    answer = [DONE]
    for junction in mine.net.junctions:
        number = junction.number
        if earliest.get(number, NO_MINUTE) != later.get(number, NO_MINUTE):
            answer.extend([number, earliest.get(number, NO_MINUTE), later.get(number, NO_MINUTE)])
    return answer


def answer_needed(mine, given):
    a = given[0]
    loaded = given[1]
    if not (is_name(a) and is_load(loaded)):
        return [OUTSIDE]
    if not has_junction(mine.net, a):
        return [NO_JUNCTION]
    return [DONE] + needed_roads(mine.net.roads, all_steps(mine.net, loaded), a)


def answer_round(mine, given):
    a = given[0]
    b = given[1]
    t = given[2]
    stay = given[3]
    if not (is_name(a) and is_name(b) and is_minute(t) and is_stay(stay)):
        return [OUTSIDE]
    if not (has_junction(mine.net, a) and has_junction(mine.net, b)):
        return [NO_JUNCTION]
    there = earliest_minutes(all_steps(mine.net, LOADED), a, t)
    if b not in there:
        return [NO_WAY]
    back = earliest_minutes(all_steps(mine.net, EMPTY), b, there[b] + stay)
    if a not in back:
        return [NO_WAY]
    return [DONE, there[b], back[a]]


def answer_within(mine, given):
    a = given[0]
    t = given[1]
    m = given[2]
    loaded = given[3]
    if not (is_name(a) and is_minute(t) and is_minute(m) and is_load(loaded)):
        return [OUTSIDE]
    if not has_junction(mine.net, a):
        return [NO_JUNCTION]
    earliest = earliest_minutes(all_steps(mine.net, loaded), a, t)
    answer = [DONE]
    for junction in mine.net.junctions:
        if junction.number in earliest and earliest[junction.number] <= t + m:
            answer.append(junction.number)
    return answer


def answer_ramp(mine, given):
    nx = given[0]
    m = given[1]
    first = given[2]
    second = given[3]
    heights = given[4:]
    if not (is_nx(nx) and is_member(m) and is_cell(first) and is_cell(second) and is_row(heights, MOST_HEIGHTS)):
        return [OUTSIDE]
    if len(heights) == 0 or len(heights) % nx > 0:
        return [WRONG_COUNT]
    if first >= len(heights) or second >= len(heights):
        return [NO_CELL]
    surface = Surface(nx, heights, m)
    levels = cell_levels(surface, first)
    if second not in levels:
        return [NO_WAY]
    return [DONE] + ramp_cells(surface, levels, second)


def answer_begins(mine, given):
    n = given[0]
    t = given[1]
    loaded = given[2]
    way = given[3]
    if not (is_name(n) and is_minute(t) and is_load(loaded) and is_way(way)):
        return [OUTSIDE]
    if not has_road(mine.net, n):
        return [NO_ROAD]
    step = road_step(mine.net, find_road(mine.net, n), way, loaded)
    if step is None:
        return [NO_WAY]
    begin = first_begin(step, t)
    return [DONE, begin, begin + step.minutes]


def answer_net(mine, given):
    return [DONE] + net_numbers(mine.net)


HANDLERS = {
    0: answer_read,
    1: answer_look,
    2: answer_write,
    3: answer_undo,
    4: answer_close,
    5: answer_free,
    6: answer_road,
    7: answer_times,
    8: answer_route,
    9: answer_check,
    10: answer_table,
    11: answer_without,
    12: answer_needed,
    13: answer_round,
    14: answer_within,
    15: answer_ramp,
    16: answer_begins,
    17: answer_net,
}


def answer_all(cut_calls):
    """The answers to calls on one new object; a call is its number and the numbers given with it."""
    mine = Mine()
    told = []
    for number, given in cut_calls:
        handler = HANDLERS[number]
        told.append(handler(mine, given))
    return told
