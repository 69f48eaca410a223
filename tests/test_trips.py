"""Table, round, within and begins at nets whose answers are found by hand."""

import unittest

from tests.helper import (
    ask, begins, close, free, last, level_net, lines, read, round_trip, table, times, undo, within,
)

NET = level_net((7, 3, 5, 8), ("1 5 3 2000 2", "2 3 7 4000 2", "3 8 5 1000 1"), ("2 10 20",))


class TestTable(unittest.TestCase):
    def tables(self, text, a, t, l):
        """The right table, and all that differ from it at one place by 1, or by a 0."""
        right = [minute + 1 for minute in last(read(text), times(a, t, l))[1:]]
        wrong = []
        for place, number in enumerate(right):
            for other in {number - 1, number + 1, 0, 1, 1000000} - {number, -1}:
                wrong.append(right[:place] + [other] + right[place + 1:])
        return right, wrong

    def test_right_and_wrong_ones(self):
        for a, t, l in ((5, 0, 0), (5, 9, 1), (8, 4, 0), (7, 12, 0), (8, 100000, 1)):
            right, wrong = self.tables(NET, a, t, l)
            with self.subTest(a=a, t=t):
                self.assertEqual(last(read(NET), table(a, t, l, right)), [0, 1])
                told = ask(read(NET), *[table(a, t, l, numbers) for numbers in wrong])[1:]
                self.assertEqual(told, [[0, 0]] * len(wrong))

    def test_by_hand(self):
        self.assertEqual(ask(read(NET), table(5, 9, 0, [25, 12, 10, 0]), table(5, 9, 0, [25, 12, 10, 1]),
                             table(5, 9, 0, [24, 11, 9, 0]), table(5, 9, 0, [0, 0, 0, 0]),
                             table(5, 9, 0, [10, 12, 25, 0]))[1:],
                         [[0, 1], [0, 0], [0, 0], [0, 0], [0, 0]])

    def test_another_minute_or_load_or_beginning(self):
        text = lines("junction 1 0", "junction 2 1000", "road 1 1 2 10000 2", "speed 100 50 10 100 20")
        self.assertEqual(ask(read(text), table(1, 0, 0, [1, 3]), table(1, 0, 1, [1, 3]), table(1, 0, 1, [1, 11]),
                             table(1, 1, 0, [1, 3]), table(2, 0, 0, [1, 3]), table(2, 0, 0, [2, 1]))[1:],
                         [[0, 1], [0, 0], [0, 1], [0, 0], [0, 0], [0, 1]])

    def test_numbers_that_hold_one_another_up_are_none(self):
        # 2 and 3 can't be reached; with these numbers each road to them would come too late.
        text = level_net((1, 2, 3), ("1 2 3 1000 2",))
        self.assertEqual(ask(read(text), table(1, 0, 0, [1, 0, 0]), table(1, 0, 0, [1, 5, 6]),
                             table(1, 0, 0, [1, 6, 5]))[1:], [[0, 1], [0, 0], [0, 0]])

    def test_ten_junctions(self):
        text = level_net(range(1, 11), [f"{n} {n} {n + 1} 1000000 2" for n in range(1, 10)])
        right = [100001 + 1000 * count for count in range(10)]
        self.assertEqual(ask(read(text), table(1, 100000, 0, right), table(1, 100000, 0, right[::-1]),
                             table(10, 100000, 0, right[::-1]))[1:], [[0, 1], [0, 0], [0, 1]])

    def test_as_many_as_junctions(self):
        for count in (0, 1, 3, 5, 20):
            with self.subTest(count=count):
                self.assertEqual(last(read(NET), table(5, 0, 0, [1] * count)), [-8])
        self.assertEqual(last(read(NET), table(5, 0, 0, [1] * 4)), [0, 0])
        self.assertEqual(last(read(NET), table(5, 0, 0, [1] * 21)), [-1])


class TestRound(unittest.TestCase):
    # Up 10 minutes loaded and 2 empty, down 5 loaded and 1 empty.
    HILL = lines("junction 1 0", "junction 2 1000", "road 1 1 2 10000 2", "speed 100 50 10 100 20")

    def test_loaded_there_and_empty_back(self):
        calls = [round_trip(1, 2, 0, 0), round_trip(2, 1, 0, 0), round_trip(1, 2, 30, 7)]
        self.assertEqual(ask(read(self.HILL), *calls)[1:], [[0, 10, 11], [0, 5, 7], [0, 40, 48]])

    def test_a_stay_of_0_and_of_1000(self):
        self.assertEqual(ask(read(self.HILL), round_trip(1, 2, 3, 0), round_trip(1, 2, 3, 1000))[1:],
                         [[0, 13, 14], [0, 13, 1014]])

    def test_stay_is_spent_ahead_of_waiting(self):
        calls = [round_trip(1, 2, 0, stay) for stay in (0, 2, 3, 8, 10, 11)]
        self.assertEqual(ask(read(self.HILL + "closed 1 13 20\n"), *calls)[1:],
                         [[0, 10, 11], [0, 10, 13], [0, 10, 21], [0, 10, 21], [0, 10, 21], [0, 10, 22]])

    def test_not_there_loaded(self):
        text = lines("junction 1 0", "junction 2 1000", "road 1 1 2 10000 2", "speed 100 50 0 100 20")
        self.assertEqual(ask(read(text), round_trip(1, 2, 0, 0), round_trip(2, 1, 0, 0))[1:], [[-7], [0, 5, 7]])

    def test_not_back_empty(self):
        text = lines("junction 1 0", "junction 2 1000", "road 1 1 2 10000 2", "speed 100 50 10 0 20")
        self.assertEqual(ask(read(text), round_trip(1, 2, 0, 0), round_trip(2, 1, 0, 0))[1:], [[-7], [0, 5, 7]])

    def test_one_way_and_apart(self):
        text = level_net((1, 2, 3), ("1 1 2 1000 1",))
        self.assertEqual(ask(read(text), round_trip(1, 2, 0, 0), round_trip(2, 1, 0, 0), round_trip(1, 3, 0, 0))[1:],
                         [[-7], [-7], [-7]])

    def test_back_by_another_way(self):
        text = level_net((1, 2, 3), ("1 1 2 1000 1", "2 2 3 1000 1", "3 3 1 1000 1"))
        self.assertEqual(last(read(text), round_trip(1, 2, 0, 4)), [0, 1, 7])

    def test_the_same_junction(self):
        self.assertEqual(ask(read(self.HILL), round_trip(1, 1, 9, 0), round_trip(2, 2, 9, 1000))[1:],
                         [[0, 9, 9], [0, 9, 1009]])

    def test_back_after_the_last_minute(self):
        self.assertEqual(last(read(self.HILL), round_trip(1, 2, 100000, 1000)), [0, 100010, 101011])
        self.assertEqual(last(read(self.HILL), round_trip(1, 2, 99995, 0)), [0, 100005, 100006])
        self.assertEqual(last(read(self.HILL), close(1, 0, 100000), round_trip(1, 2, 0, 1)), [0, 100010, 100012])


class TestWithin(unittest.TestCase):
    def test_just_then_and_a_minute_later(self):
        told = ask(read(NET), *[within(5, 4, m, 0) for m in (0, 1, 2, 3, 5, 6, 100000)])[1:]
        self.assertEqual(told, [[0, 5], [0, 5], [0, 3, 5], [0, 3, 5], [0, 3, 5], [0, 7, 3, 5], [0, 7, 3, 5]])

    def test_from_the_last_minute_on(self):
        calls = [within(5, 100000, 0, 0), within(5, 100000, 1, 1), within(5, 100000, 100000, 1)]
        self.assertEqual(ask(read(NET), *calls)[1:], [[0, 5], [0, 5], [0, 7, 3, 5]])

    def test_those_that_are_never_reached_are_not_told(self):
        self.assertEqual(ask(read(NET), within(5, 0, 100000, 0), within(8, 0, 100000, 0))[1:],
                         [[0, 7, 3, 5], [0, 7, 3, 5, 8]])

    def test_several_at_0_minutes_are_one(self):
        self.assertEqual(ask(read(level_net((1, 2), ("1 1 2 1 2",))), within(1, 0, 0, 0), within(1, 0, 1, 0))[1:],
                         [[0, 1], [0, 1, 2]])

    def test_loaded_and_closings(self):
        text = lines("junction 1 0", "junction 2 1000", "road 1 1 2 10000 2", "speed 100 50 10 100 20", "closed 1 5 6")
        self.assertEqual(ask(read(text), within(1, 0, 2, 0), within(1, 0, 15, 1), within(1, 0, 16, 1),
                             free(1), within(1, 0, 9, 1), within(1, 0, 10, 1))[1:],
                         [[0, 1, 2], [0, 1], [0, 1, 2], [0, 1], [0, 1], [0, 1, 2]])


class TestBegins(unittest.TestCase):
    """A road of 5 minutes from 1 to 2."""

    def begin(self, t, *closings):
        text = level_net((1, 2), ("4 1 2 5000 2",), [f"4 {lo} {hi}" for lo, hi in closings])
        told = ask(read(text), begins(4, t, 0, 0), begins(4, t, 0, 1), begins(4, t, 1, 0))
        self.assertEqual(told[2:], [told[1]] * 2)
        self.assertEqual(told[1][0], 0)
        self.assertEqual(told[1][2], told[1][1] + 5)
        return told[1][1]

    def test_no_closing(self):
        self.assertEqual(self.begin(0), 0)
        self.assertEqual(self.begin(100000), 100000)

    def test_around_one_closing(self):
        for t, begin in ((4, 4), (5, 5), (6, 20), (10, 20), (19, 20), (20, 20), (21, 21)):
            with self.subTest(t=t):
                self.assertEqual(self.begin(t, (10, 20)), begin)

    def test_through_several_in_any_order(self):
        for closings in (((10, 20), (24, 30), (34, 40)), ((34, 40), (24, 30), (10, 20)),
                         ((24, 30), (34, 40), (10, 20))):
            with self.subTest(closings=closings):
                self.assertEqual(self.begin(6, *closings), 40)
                self.assertEqual(self.begin(5, *closings), 5)
        self.assertEqual(self.begin(6, (34, 40), (25, 30), (10, 20)), 20)

    def test_that_overlap(self):
        for closings in (((10, 40), (15, 20)), ((15, 20), (10, 40)), ((10, 30), (25, 40)), ((25, 40), (10, 30)),
                         ((10, 40), (10, 40)), ((10, 12), (10, 40)), ((12, 40), (10, 40))):
            with self.subTest(closings=closings):
                self.assertEqual(self.begin(6, *closings), 40)

    def test_twenty_closings(self):
        closings = [(minute, minute + 1) for minute in range(5, 85, 4)]
        for order in (closings, closings[::-1], closings[::2] + closings[1::2]):
            self.assertEqual(self.begin(1, *order), 82)

    def test_up_to_the_last_minute(self):
        self.assertEqual(self.begin(0, (0, 100000)), 100000)
        self.assertEqual(self.begin(99996, (0, 1), (100000 - 1, 100000)), 100000)

    def test_both_ways_with_their_own_minutes(self):
        text = lines("junction 1 0", "junction 2 1000", "road 4 1 2 10000 2", "speed 100 50 10 100 20", "closed 4 6 9")
        told = ask(read(text), *[begins(4, 1, l, w) for l in (0, 1) for w in (0, 1)])[1:]
        self.assertEqual(told, [[0, 1, 3], [0, 1, 2], [0, 9, 19], [0, 1, 6]])
        self.assertEqual(last(read(text), begins(4, 2, 1, 1)), [0, 9, 14])

    def test_not_gone_so(self):
        text = lines("junction 1 0", "junction 2 1000", "road 4 1 2 10000 1", "road 5 1 2 10000 2", "road 6 1 2 9999 2",
                     "speed 100 50 0 100 20")
        told = ask(read(text), *[begins(n, 0, l, w) for n in (4, 5, 6) for l in (0, 1) for w in (0, 1)])[1:]
        self.assertEqual(told, [[0, 0, 2], [-7], [-7], [-7],
                                [0, 0, 2], [0, 0, 1], [-7], [0, 0, 5],
                                [-7], [-7], [-7], [-7]])

    def test_after_changes(self):
        call = begins(2, 5, 0, 0)
        told = ask(read(NET), call, close(2, 5, 8), call, close(1, 0, 90), call, free(2), call, undo(), call)
        self.assertEqual(told[1:],
                         [[0, 5, 9], [0], [0, 20, 24], [0], [0, 20, 24], [0, 2], [0, 5, 9], [0], [0, 20, 24]])


if __name__ == "__main__":
    unittest.main()
