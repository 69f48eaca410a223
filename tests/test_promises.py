"""The promises, at many nets, held against the document's words taken minute by minute."""

import copy
import random
import unittest

from tests.helper import (
    ask, begins, check, close, free, last, lines, needed, net, read, round_trip, route, table, times, within, without,
    write, written,
)


class Told:
    """A net made from a seed, with small numbers so that ties and waiting are common."""

    def __init__(self, seed):
        draw = random.Random(seed)
        numbers = draw.sample(range(1, 100), draw.randint(2, 6))
        self.heights = {number: draw.choice((0, 0, 50, 100, 300)) for number in numbers}
        self.roads = []
        for number in draw.sample(range(1, 100), draw.randint(1, 9)):
            ends = draw.sample(numbers, 2)
            self.roads.append((number, ends[0], ends[1], draw.randint(1, 8) * 500, draw.choice((1, 2, 2))))
        gradients = sorted(draw.sample((0, 20, 60, 150, 600), draw.randint(1, 3)))
        self.speeds = [(gradient,) + tuple(draw.choice((0, 5, 10, 20)) for count in range(4)) for gradient in gradients]
        self.closings = []
        for count in range(draw.randint(0, 8)):
            lo = draw.randint(0, 30)
            self.closings.append((draw.choice(self.roads)[0], lo, lo + draw.randint(1, 12)))
        self.start = draw.choice(numbers)
        self.minute = draw.randint(0, 15)
        self.load = draw.randint(0, 1)

    def text(self):
        rows = [("junction", item) for item in self.heights.items()]
        for word, items in (("road", self.roads), ("speed", self.speeds), ("closed", self.closings)):
            rows += [(word, item) for item in items]
        return lines(*[" ".join([word] + [str(number) for number in row]) for word, row in rows])

    def numbers(self):
        """What net must tell."""
        told = [0]
        for rows in (list(self.heights.items()), self.roads, self.speeds, self.closings):
            told += [len(rows)] + [number for row in rows for number in row]
        return told

    def minutes(self, road, start, end):
        """How long the road takes so, or None, as the document's words say it."""
        number, a, b, length, ways = road
        if (start, end) != (a, b) and ((start, end) != (b, a) or ways == 1):
            return None
        drop = self.heights[start] - self.heights[end]
        for gradient, up, up_loaded, down, down_loaded in self.speeds:
            if 1000 * abs(drop) <= gradient * length:
                pace = (down, down_loaded)[self.load] if drop > 0 else (up, up_loaded)[self.load]
                return -(-length // (100 * pace)) if pace else None
        return None

    def can_begin(self, number, minute, takes):
        return all(minute + takes <= lo or hi <= minute for road, lo, hi in self.closings if road == number)

    def steps(self):
        """Each step: the road's number, its beginning, its end, its minutes."""
        found = []
        for road in self.roads:
            for start, end in ((road[1], road[2]), (road[2], road[1])):
                takes = self.minutes(road, start, end)
                if takes is not None:
                    found.append((road[0], start, end, takes))
        return found

    def changed(self, **values):
        """The same net asked otherwise, or another one."""
        other = copy.copy(self)
        for name, value in values.items():
            setattr(other, name, value)
        return other

    def without_road(self, number):
        return self.changed(roads=[road for road in self.roads if road[0] != number],
                            closings=[closing for closing in self.closings if closing[0] != number])

    def earliest_of(self, place, minute):
        return dict(zip(self.heights, self.earliest(minute)))[place]

    def earliest(self, minute):
        """The earliest minutes, found by being everywhere that one can be, minute by minute."""
        steps = self.steps()
        comes = {minute: {self.start}}
        found = {}
        # Closings end by 42, and five steps, which are enough, take 40 minutes at most.
        for now in range(minute, minute + 100):
            for place in comes.get(now, ()):
                found.setdefault(place, now)
            for number, start, end, takes in steps:
                if start in found and self.can_begin(number, now, takes):
                    comes.setdefault(now + takes, set()).add(end)
        return [found.get(place, -1) for place in self.heights]

    def shown(self, told):
        """Whether each road alone shows that these are the earliest minutes."""
        minute = dict(zip(self.heights, told))
        comes = {place: [] for place in self.heights}
        for number, start, end, takes in self.steps():
            if minute[start] >= 0:
                begin = minute[start]
                while not self.can_begin(number, begin, takes):
                    begin += 1
                comes[end].append(begin + takes)
        for place, at in minute.items():
            least = min(comes[place], default=-1)
            if place == self.start:
                least = self.minute
            if at != least:
                return False
        return True


SEEDS = range(150)


class TestPromise1(unittest.TestCase):
    def test_times_are_those_found_minute_by_minute(self):
        for seed in SEEDS:
            told = Told(seed)
            with self.subTest(seed=seed):
                self.assertEqual(last(read(told.text()), times(told.start, told.minute, told.load)),
                                 [0] + told.earliest(told.minute))

    def test_route_is_a_trip_that_comes_just_then(self):
        seen = 0
        for seed in SEEDS:
            told = Told(seed)
            earliest = dict(zip(told.heights, told.earliest(told.minute)))
            goals = list(told.heights)
            answers = ask(read(told.text()), *[route(told.start, goal, told.minute, told.load) for goal in goals])
            for goal, answer in zip(goals, answers[1:]):
                with self.subTest(seed=seed, goal=goal):
                    if earliest[goal] < 0:
                        self.assertEqual(answer, [-7])
                        continue
                    self.assertEqual(answer[:2], [0, earliest[goal]])
                    self.assertEqual(self.trip_end(told, answer[2:]), (goal, earliest[goal]))
                    self.assertEqual(answer[2:], self.trip_from_its_end(told, earliest, goal))
                    seen += len(answer) > 4
        # There must be routes of several steps among these.
        self.assertGreater(seen, 50)

    def test_check_takes_what_route_tells(self):
        for seed in SEEDS:
            told = Told(seed)
            goals = list(told.heights)
            found = ask(read(told.text()), times(told.start, told.minute, told.load),
                        *[route(told.start, goal, told.minute, told.load) for goal in goals])[1:]
            for goal, minute, answer in zip(goals, found[0][1:], found[1:]):
                if answer != [-7]:
                    with self.subTest(seed=seed, goal=goal):
                        call = check(told.start, told.minute, told.load, answer[2:])
                        self.assertEqual(last(read(told.text()), call), [0, 1, goal, minute])

    def test_check_at_drawn_trips_none_of_which_comes_before_the_earliest_minute(self):
        taken, failed = 0, 0
        for seed in SEEDS:
            told = Told(seed)
            draw = random.Random(1000 + seed)
            earliest = dict(zip(told.heights, told.earliest(told.minute)))
            trips = [self.drawn_trip(told, draw) for count in range(20)]
            answers = ask(read(told.text()), *[check(told.start, told.minute, told.load, trip) for trip in trips])[1:]
            for trip, answer in zip(trips, answers):
                with self.subTest(seed=seed, trip=trip):
                    self.assertEqual(answer, self.checked(told, trip))
                    if answer[1] == 1:
                        self.assertGreaterEqual(answer[3], earliest[answer[2]])
                        self.assertGreaterEqual(earliest[answer[2]], 0)
                taken += answer[1] == 1 and len(trip) > 2
                failed += answer[1] == 0 and answer[2] > 0
        self.assertGreater(taken, 100)
        self.assertGreater(failed, 100)

    def drawn_trip(self, told, draw):
        """A trip of up to six steps, each made where it may be, but now and then a little wrong."""
        place, minute, numbers = told.start, told.minute, []
        for count in range(draw.randint(1, 6)):
            fitting = [step for step in told.steps() if step[1] == place]
            if not fitting:
                break
            number, start, end, takes = draw.choice(fitting)
            begin = minute + draw.choice((0, 0, 1, 5))
            while not told.can_begin(number, begin, takes) and draw.random() < 0.95:
                begin += 1
            place, minute = end, begin + takes
            wrong = draw.random()
            if wrong < 0.05:
                number = draw.choice(told.roads)[0]
            elif wrong < 0.1:
                begin = max(0, begin - 1)
            numbers += [number, begin]
        return numbers

    def checked(self, told, numbers):
        """What check must answer, by the document's words."""
        place, minute = told.start, told.minute
        for count, (number, begin) in enumerate(zip(numbers[::2], numbers[1::2])):
            fitting = [step for step in told.steps() if step[0] == number and step[1] == place]
            if not fitting or begin < minute or not told.can_begin(number, begin, fitting[0][3]):
                return [0, 0, count]
            place, minute = fitting[0][2], begin + fitting[0][3]
        return [0, 1, place, minute]

    def test_round_is_both_trips_found_minute_by_minute(self):
        there_and_back = 0
        for seed in SEEDS:
            told = Told(seed)
            for goal in told.heights:
                for stay in (0, 3):
                    expected = [-7]
                    there = told.changed(load=1).earliest_of(goal, told.minute)
                    if there >= 0:
                        back = told.changed(load=0, start=goal).earliest_of(told.start, there + stay)
                        expected = [0, there, back] if back >= 0 else [-7]
                    there_and_back += len(expected) == 3 and goal != told.start
                    with self.subTest(seed=seed, goal=goal, stay=stay):
                        call = round_trip(told.start, goal, told.minute, stay)
                        self.assertEqual(last(read(told.text()), call), expected)
        self.assertGreater(there_and_back, 50)

    def test_within_is_what_is_found_minute_by_minute(self):
        for seed in SEEDS:
            told = Told(seed)
            earliest = dict(zip(told.heights, told.earliest(told.minute)))
            answers = ask(read(told.text()), *[within(told.start, told.minute, m, told.load) for m in range(60)])[1:]
            with self.subTest(seed=seed):
                for m, answer in enumerate(answers):
                    self.assertEqual(answer, [0] + [place for place in told.heights
                                                    if 0 <= earliest[place] <= told.minute + m])

    def test_begins_is_what_is_found_minute_by_minute(self):
        waited = 0
        for seed in SEEDS:
            told = Told(seed)
            for number, a, b, length, ways in told.roads:
                for w, ends in enumerate(((a, b), (b, a))):
                    takes = told.minutes((number, a, b, length, ways), *ends)
                    answers = ask(read(told.text()), *[begins(number, t, told.load, w) for t in range(45)])[1:]
                    for t, answer in enumerate(answers):
                        expected = [-7]
                        if takes is not None:
                            begin = min(minute for minute in range(t, 100) if told.can_begin(number, minute, takes))
                            expected = [0, begin, begin + takes]
                            waited += begin > t
                        with self.subTest(seed=seed, number=number, t=t, w=w):
                            self.assertEqual(answer, expected)
        self.assertGreater(waited, 100)

    def trip_end(self, told, numbers):
        """Where and when the trip ends, each step made by the document's words."""
        place, minute = told.start, told.minute
        for road_number, begin in zip(numbers[::2], numbers[1::2]):
            fitting = [step for step in told.steps() if step[0] == road_number and step[1] == place]
            self.assertEqual(len(fitting), 1)
            takes = fitting[0][3]
            self.assertGreaterEqual(begin, minute)
            self.assertTrue(told.can_begin(road_number, begin, takes))
            place, minute = fitting[0][2], begin + takes
        return place, minute

    def trip_from_its_end(self, told, earliest, goal):
        numbers = []
        while goal != told.start:
            for number, start, end, takes in told.steps():
                begin = earliest[start]
                while begin >= 0 and not told.can_begin(number, begin, takes):
                    begin += 1
                if end == goal and begin >= 0 and begin + takes == earliest[goal]:
                    break
            numbers = [number, begin] + numbers
            goal = start
        return numbers


class TestPromise2(unittest.TestCase):
    def test_each_road_alone_shows_the_times_and_no_others(self):
        for seed in SEEDS:
            told = Told(seed)
            minutes = last(read(told.text()), times(told.start, told.minute, told.load))[1:]
            with self.subTest(seed=seed):
                self.assertTrue(told.shown(minutes))
                for place in range(len(minutes)):
                    for other in (-1, 0, minutes[place] - 1, minutes[place] + 1, minutes[place] + 7):
                        if other != minutes[place] and other >= -1:
                            self.assertFalse(told.shown(minutes[:place] + [other] + minutes[place + 1:]))


    def test_table_takes_these_alone(self):
        for seed in SEEDS:
            told = Told(seed)
            minutes = last(read(told.text()), times(told.start, told.minute, told.load))[1:]
            right = [minute + 1 for minute in minutes]
            tables = [right]
            for place, number in enumerate(right):
                for other in (0, 1, number - 1, number + 1, number + 7, 1000000):
                    tables.append(right[:place] + [max(0, other)] + right[place + 1:])
            answers = ask(read(told.text()), *[table(told.start, told.minute, told.load, row) for row in tables])[1:]
            with self.subTest(seed=seed):
                for row, answer in zip(tables, answers):
                    self.assertEqual(answer, [0, 1] if row == right else [0, 0])
                    self.assertEqual(answer == [0, 1], told.shown([number - 1 for number in row]))


def none_earlier(before, after):
    """Whether no minute of after is less than that of before; none at all counts as the latest."""
    late = [minute if minute >= 0 else 10 ** 9 for minute in after[1:]]
    soon = [minute if minute >= 0 else 10 ** 9 for minute in before[1:]]
    return len(late) == len(soon) and all(x >= y for x, y in zip(late, soon))


class TestPromise3(unittest.TestCase):
    def test_who_starts_later_comes_nowhere_earlier(self):
        for seed in SEEDS:
            told = Told(seed)
            answers = ask(read(told.text()), *[times(told.start, minute, told.load) for minute in range(60)])[1:]
            with self.subTest(seed=seed):
                for minute in range(59):
                    self.assertTrue(none_earlier(answers[minute], answers[minute + 1]))

    def test_one_more_closing_makes_nothing_earlier(self):
        later = 0
        for seed in SEEDS:
            told = Told(seed)
            before = last(read(told.text()), times(told.start, told.minute, told.load))
            for road in told.roads:
                for lo, hi in ((0, 1), (told.minute, told.minute + 3), (10, 30), (0, 100000)):
                    after = last(read(told.text()), close(road[0], lo, hi), times(told.start, told.minute, told.load))
                    with self.subTest(seed=seed, road=road[0], lo=lo):
                        self.assertTrue(none_earlier(before, after))
                    later += after != before
        self.assertGreater(later, 50)


    def test_one_road_fewer_makes_nothing_earlier_and_without_tells_what_it_changes(self):
        later, lost = 0, 0
        for seed in SEEDS:
            told = Told(seed)
            before = told.earliest(told.minute)
            for road in told.roads:
                fewer = told.without_road(road[0])
                after = last(read(fewer.text()), times(told.start, told.minute, told.load))
                expected = [0]
                for place, soon, late in zip(told.heights, before, fewer.earliest(told.minute)):
                    if soon != late:
                        expected += [place, soon, late]
                        later += late >= 0
                        lost += late < 0
                with self.subTest(seed=seed, road=road[0]):
                    self.assertTrue(none_earlier([0] + before, after))
                    self.assertEqual(last(read(told.text()), without(road[0], told.start, told.minute, told.load)),
                                     expected)
        self.assertGreater(later, 50)
        self.assertGreater(lost, 50)

    def test_needed_is_what_without_loses(self):
        some = 0
        for seed in SEEDS:
            told = Told(seed)
            numbers = [road[0] for road in told.roads]
            for start in told.heights:
                answers = ask(read(told.text()), needed(start, told.load),
                              *[without(number, start, 0, told.load) for number in numbers])[1:]
                expected = [number for number, answer in zip(numbers, answers[1:]) if -1 in answer[3::3]]
                with self.subTest(seed=seed, start=start):
                    self.assertEqual(answers[0], [0] + expected)
                some += 0 < len(expected) < len(numbers)
        self.assertGreater(some, 50)

    def test_a_freed_road_makes_nothing_later(self):
        for seed in SEEDS:
            told = Told(seed)
            for road in told.roads:
                call = times(told.start, told.minute, told.load)
                answers = ask(read(told.text()), call, free(road[0]), call)
                with self.subTest(seed=seed, road=road[0]):
                    self.assertTrue(none_earlier(answers[3], answers[1]))


class TestPromise5(unittest.TestCase):
    def test_written_read_and_written_again(self):
        for seed in SEEDS:
            told = Told(seed)
            text = written(read(told.text()))
            with self.subTest(seed=seed):
                self.assertEqual(text, told.text())
                self.assertEqual(written(read(text)), text)
                self.assertEqual(last(read(text), net()), last(read(told.text()), net()))
                self.assertEqual(last(read(text), net()), told.numbers())

    def test_read_again_it_answers_the_same(self):
        for seed in SEEDS:
            told = Told(seed)
            text = "rem\n\n  " + told.text().replace(" ", "  ")
            calls = [times(place, 3, load) for place in told.heights for load in (0, 1)]
            with self.subTest(seed=seed):
                self.assertEqual(ask(read(text), *calls, write()), ask(read(written(read(text))), *calls, write()))

    def test_after_changes(self):
        text = lines("junction 9 1000000", "junction 99 0", "road 99 99 9 1000000 1", "speed 10000 1000 0 1000 0",
                     "closed 99 0 100000", "closed 99 99999 100000")
        changed = written(read(text), close(99, 0, 1), read("junction 1 0\nroad 1 1 9 1 2\nclosed 1 5 6"))
        self.assertEqual(changed, lines(
            "junction 9 1000000", "junction 99 0", "junction 1 0", "road 99 99 9 1000000 1", "road 1 1 9 1 2",
            "speed 10000 1000 0 1000 0", "closed 99 0 100000", "closed 99 99999 100000", "closed 99 0 1",
            "closed 1 5 6"))
        self.assertEqual(written(read(changed)), changed)


if __name__ == "__main__":
    unittest.main()
