"""Times and route at nets whose answers are found by hand."""

import unittest

from tests.helper import ask, close, last, level_net, lines, read, route, times


class TestTimes(unittest.TestCase):
    def test_one_junction(self):
        self.assertEqual(last(read("junction 5 9"), times(5, 77, 1)), [0, 77])

    def test_junctions_in_their_order(self):
        text = level_net((7, 3, 5), ("1 5 3 2000 2", "2 3 7 4000 2"))
        self.assertEqual(ask(read(text), times(5, 10, 0), times(7, 10, 0), times(3, 10, 0))[1:],
                         [[0, 16, 12, 10], [0, 10, 14, 16], [0, 14, 10, 12]])

    def test_not_reached(self):
        text = level_net((1, 2, 3, 4), ("1 1 2 1000 1", "2 3 4 1000 2"))
        self.assertEqual(ask(read(text), times(1, 0, 0), times(2, 0, 0), times(3, 0, 0))[1:],
                         [[0, 0, 1, -1, -1], [0, -1, 0, -1, -1], [0, -1, -1, 0, 1]])

    def test_several_roads_beat_a_slow_one(self):
        text = level_net((1, 2, 3, 4), ("1 1 4 9000 2", "2 3 4 2000 2", "3 2 3 2000 2", "4 1 2 2000 2"))
        self.assertEqual(last(read(text), times(1, 0, 0)), [0, 0, 2, 4, 6])

    def test_loaded_and_empty(self):
        text = lines("junction 1 0", "junction 2 1000", "junction 3 0", "road 1 1 2 10000 2", "road 2 2 3 10000 2",
                     "speed 100 50 10 100 20")
        self.assertEqual(ask(read(text), times(1, 0, 0), times(1, 0, 1))[1:], [[0, 0, 2, 3], [0, 0, 10, 15]])

    def test_too_steep_for_a_load(self):
        text = lines("junction 1 0", "junction 2 1000", "road 1 1 2 10000 2", "speed 100 50 0 100 20")
        self.assertEqual(ask(read(text), times(1, 0, 0), times(1, 0, 1), times(2, 0, 1), route(1, 2, 0, 1))[1:],
                         [[0, 0, 2], [0, 0, -1], [0, 5, 0], [-7]])

    def test_two_roads_between_the_same_junctions(self):
        text = level_net((1, 2), ("1 1 2 5000 2", "2 2 1 3000 2"))
        self.assertEqual(ask(read(text), times(1, 0, 0), times(2, 0, 0))[1:], [[0, 0, 3], [0, 3, 0]])

    def test_a_line_of_ten_junctions_told_from_its_end(self):
        text = level_net(range(1, 11), [f"{n} {n} {n + 1} 1000 1" for n in range(9, 0, -1)])
        self.assertEqual(last(read(text), times(1, 5, 0)), [0, 5, 6, 7, 8, 9, 10, 11, 12, 13, 14])
        self.assertEqual(last(read(text), times(10, 5, 0)), [0] + [-1] * 9 + [5])

    def test_start_at_the_last_minute(self):
        text = level_net((1, 2), ("1 1 2 1000000 2",), ("1 99000 100000",))
        self.assertEqual(ask(read(text), times(1, 100000, 0), route(1, 2, 100000, 0), times(1, 99999, 1))[1:],
                         [[0, 100000, 101000], [0, 101000, 1, 100000], [0, 99999, 101000]])


class TestClosings(unittest.TestCase):
    """One road of 5 minutes from junction 1 to 2."""

    def come(self, t, *closings):
        """When one comes to 2, and the minute at which the road's begun."""
        text = level_net((1, 2), ("1 1 2 5000 2",), [f"1 {lo} {hi}" for lo, hi in closings])
        told = ask(read(text), times(1, t, 0), route(1, 2, t, 0), times(2, t, 0), route(2, 1, t, 0))
        minute = told[1][2]
        self.assertEqual(told[1], [0, t, minute])
        self.assertEqual(told[2], [0, minute, 1, minute - 5])
        # A closing shuts both ways.
        self.assertEqual(told[3], [0, minute, t])
        self.assertEqual(told[4], [0, minute, 1, minute - 5])
        return minute

    def test_just_fits_before(self):
        self.assertEqual(self.come(5, (10, 20)), 10)
        self.assertEqual(self.come(4, (10, 20)), 9)

    def test_just_does_not_fit(self):
        self.assertEqual(self.come(6, (10, 20)), 25)

    def test_waits_for_the_end(self):
        self.assertEqual(self.come(10, (10, 20)), 25)
        self.assertEqual(self.come(19, (10, 20)), 25)

    def test_end_is_not_closed(self):
        self.assertEqual(self.come(20, (10, 20)), 25)
        self.assertEqual(self.come(21, (10, 20)), 26)

    def test_closing_of_one_minute_within_the_way(self):
        self.assertEqual(self.come(0, (2, 3)), 8)
        self.assertEqual(self.come(0, (4, 5)), 10)
        self.assertEqual(self.come(0, (5, 6)), 5)
        self.assertEqual(self.come(0, (0, 1)), 6)

    def test_two_one_behind_the_other(self):
        for closings in (((10, 20), (20, 30)), ((20, 30), (10, 20))):
            self.assertEqual(self.come(6, *closings), 35)
            self.assertEqual(self.come(5, *closings), 10)

    def test_a_gap_that_is_wide_enough_and_one_that_is_not(self):
        for closings in (((10, 20), (25, 30)), ((25, 30), (10, 20))):
            self.assertEqual(self.come(6, *closings), 25)
        for closings in (((10, 20), (24, 30)), ((24, 30), (10, 20))):
            self.assertEqual(self.come(6, *closings), 35)

    def test_within_one_another_and_the_same_twice(self):
        for closings in (((10, 40), (15, 20)), ((15, 20), (10, 40)), ((10, 40), (10, 40)), ((10, 12), (10, 40))):
            self.assertEqual(self.come(6, *closings), 45)

    def test_many_in_any_order(self):
        closings = [(minute, minute + 1) for minute in range(5, 80, 4)]
        for order in (closings, closings[::-1], closings[::2] + closings[1::2]):
            self.assertEqual(self.come(1, *order), 83)

    def test_closings_up_to_the_last_minute(self):
        self.assertEqual(self.come(0, (0, 100000)), 100005)
        self.assertEqual(self.come(99995, (99999, 100000)), 100005)
        self.assertEqual(self.come(99994, (99999, 100000)), 99999)

    def test_another_roads_closing_does_not_matter(self):
        text = level_net((1, 2, 3), ("1 1 2 5000 2", "2 2 3 5000 2"), ("2 0 100",))
        self.assertEqual(last(read(text), times(1, 0, 0)), [0, 0, 5, 105])

    def test_way_round_beats_waiting_and_the_other_way(self):
        text = level_net((1, 2, 3), ("1 1 2 1000 2", "2 1 3 3000 2", "3 3 2 3000 2"))
        told = ask(read(text), close(1, 0, 5), route(1, 2, 0, 0), close(1, 5, 6), route(1, 2, 0, 0))
        self.assertEqual(told[2], [0, 6, 1, 5])
        self.assertEqual(told[4], [0, 6, 2, 0, 3, 3])

    def test_to_wait_at_a_later_junction(self):
        text = level_net((1, 2, 3), ("1 1 2 5000 2", "2 2 3 5000 2"), ("2 6 30",))
        self.assertEqual(ask(read(text), times(1, 0, 0), route(1, 3, 0, 0))[1:],
                         [[0, 0, 5, 35], [0, 35, 1, 0, 2, 30]])


class TestRoute(unittest.TestCase):
    def test_to_itself(self):
        text = level_net((1, 2), ("1 1 2 1000 2",))
        self.assertEqual(ask(read(text), route(1, 1, 0, 0), route(2, 2, 100000, 1))[1:], [[0, 0], [0, 100000]])
        self.assertEqual(last(read("junction 1 0"), route(1, 1, 3, 0)), [0, 3])

    def test_no_earliest_minute(self):
        text = level_net((1, 2, 3), ("1 1 2 1000 1",))
        self.assertEqual(ask(read(text), route(2, 1, 0, 0), route(1, 3, 0, 0), route(1, 2, 0, 0))[1:],
                         [[-7], [-7], [0, 1, 1, 0]])

    def test_steps_from_the_beginning_on(self):
        text = level_net((1, 2, 3, 4), ("9 3 4 3000 2", "5 2 3 2000 2", "7 2 1 1000 2"))
        self.assertEqual(last(read(text), route(1, 4, 10, 0)), [0, 16, 7, 10, 5, 11, 9, 13])
        self.assertEqual(last(read(text), route(4, 1, 10, 0)), [0, 16, 9, 10, 5, 13, 7, 15])

    def test_first_of_two_same_roads_in_the_order_told(self):
        for roads, number in ((("8 1 2 1000 2", "3 1 2 1000 2"), 8), (("3 1 2 1000 2", "8 1 2 1000 2"), 3),
                              # Told from b to a, it's the first one all the same.
                              (("8 2 1 1000 2", "3 1 2 1000 2"), 8)):
            with self.subTest(roads=roads):
                self.assertEqual(last(read(level_net((1, 2), roads)), route(1, 2, 0, 0)), [0, 1, number, 0])

    def test_last_step_decides_not_the_first(self):
        # Two ways of 4 minutes to 4: by 2 (roads 1 and 4) and by 3 (roads 2 and 3).
        text = level_net((1, 2, 3, 4), ("1 1 2 2000 2", "2 1 3 2000 2", "3 3 4 2000 2", "4 2 4 2000 2"))
        self.assertEqual(last(read(text), route(1, 4, 0, 0)), [0, 4, 2, 0, 3, 2])

    def test_only_steps_that_come_at_just_that_minute(self):
        text = level_net((1, 2, 3), ("1 1 3 4000 2", "2 2 3 2000 2", "3 1 2 1000 2"))
        self.assertEqual(last(read(text), route(1, 3, 0, 0)), [0, 3, 3, 0, 2, 1])

    def test_a_later_begin_that_comes_at_the_same_minute(self):
        # Both come at 21: road 1 waits from 0 to 20, road 3 from 10 to 20.
        text = level_net((1, 2, 3), ("1 1 3 1000 2", "2 1 2 10000 2", "3 2 3 1000 2"), ("1 0 20", "3 0 20"))
        self.assertEqual(last(read(text), route(1, 3, 0, 0)), [0, 21, 1, 20])
        text = level_net((1, 2, 3), ("3 2 3 1000 2", "2 1 2 10000 2", "1 1 3 1000 2"), ("1 0 20", "3 0 20"))
        self.assertEqual(last(read(text), route(1, 3, 0, 0)), [0, 21, 2, 0, 3, 20])

    def test_as_soon_as_it_can_be_begun(self):
        # Road 2 may be begun anywhere from 1 to 9: it's begun at 1, and one waits at 3.
        text = level_net((1, 2, 3, 4), ("1 1 2 1000 2", "2 2 3 1000 2", "3 3 4 1000 2"), ("3 0 10",))
        self.assertEqual(last(read(text), route(1, 4, 0, 0)), [0, 11, 1, 0, 2, 1, 3, 10])

    def test_steps_from_junctions_without_an_earliest_minute_are_none(self):
        text = level_net((1, 2, 3), ("1 3 2 1000 1", "2 1 2 5000 2"))
        self.assertEqual(last(read(text), route(1, 2, 0, 0)), [0, 5, 2, 0])

    def test_loaded_route_is_another(self):
        text = lines("junction 1 0", "junction 2 1000", "junction 3 0", "road 1 1 2 10000 2", "road 2 1 3 90000 2",
                     "road 3 3 2 20000 2", "speed 50 100 50 100 50", "speed 100 100 0 100 100")
        self.assertEqual(ask(read(text), route(1, 2, 0, 0), route(1, 2, 0, 1))[1:],
                         [[0, 1, 1, 0], [0, 22, 2, 0, 3, 18]])


if __name__ == "__main__":
    unittest.main()
