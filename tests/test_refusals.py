"""Refusals: ranges, their order, and that they change nothing."""

import unittest

from tests.helper import (
    ask, begins, check, close, free, last, lines, look, needed, net, ramp, read, road, round_trip, route, table, times,
    undo, within, without, write, written,
)

NET = lines(
    "junction 1 0", "junction 2 0", "junction 99 0", "junction 5 0",
    "road 1 1 2 100 2", "road 99 2 99 100 2",
    "speed 0 1 1 1 1",
    "closed 1 10 20",
)
FAR = 1000000000000000000


class TestRanges(unittest.TestCase):
    def answer(self, call):
        return last(read(NET), call)

    def edges(self, make, good, place, least, most):
        """The number at a place of a call's arguments: refused with -1 just when it's outside."""
        for number in (least, most):
            call = make(*good[:place], number, *good[place + 1:])
            with self.subTest(call=call):
                self.assertNotEqual(self.answer(call), [-1])
        for number in (least - 1, most + 1, -FAR, FAR):
            call = make(*good[:place], number, *good[place + 1:])
            with self.subTest(call=call):
                self.assertEqual(self.answer(call), [-1])

    def test_close(self):
        self.edges(close, [1, 5, 6], 0, 1, 99)
        self.edges(close, [1, 5, 6], 1, 0, 100000)
        self.edges(close, [1, 5, 6], 2, 0, 100000)
        self.assertEqual(self.answer(close(1, 0, 100000)), [0])
        self.assertEqual(self.answer(close(99, 99999, 100000)), [0])

    def test_free(self):
        self.edges(free, [1], 0, 1, 99)
        self.assertEqual(self.answer(free(1)), [0, 1])
        self.assertEqual(self.answer(free(99)), [0, 0])

    def test_road(self):
        self.edges(road, [1, 0], 0, 1, 99)
        self.edges(road, [1, 0], 1, 0, 1)
        self.assertEqual(self.answer(road(99, 1)), [0, 2, 99, 1, 1])

    def test_times(self):
        self.edges(times, [1, 0, 0], 0, 1, 99)
        self.edges(times, [1, 0, 0], 1, 0, 100000)
        self.edges(times, [1, 0, 0], 2, 0, 1)
        self.assertEqual(self.answer(times(99, 100000, 1)), [0, 100002, 100001, 100000, -1])

    def test_route(self):
        self.edges(route, [1, 2, 0, 0], 0, 1, 99)
        self.edges(route, [1, 2, 0, 0], 1, 1, 99)
        self.edges(route, [1, 2, 0, 0], 2, 0, 100000)
        self.edges(route, [1, 2, 0, 0], 3, 0, 1)

    def test_check(self):
        good = [1, 0, 0, [1, 0]]
        self.edges(check, good, 0, 1, 99)
        self.edges(check, good, 1, 0, 100000)
        self.edges(check, good, 2, 0, 1)
        self.members(lambda numbers: check(1, 0, 0, numbers), [1, 0, 1, 1])
        self.edges_of_length(lambda count: check(1, 0, 0, [1, 0] * (count // 2) + [1] * (count % 2)), 60)
        self.assertEqual(self.answer(check(99, 100000, 1, [99, 1000000])), [0, 1, 2, 1000001])

    def test_table(self):
        good = [1, 0, 0, [1, 2, 3, 0]]
        self.edges(table, good, 0, 1, 99)
        self.edges(table, good, 1, 0, 100000)
        self.edges(table, good, 2, 0, 1)
        self.members(lambda numbers: table(1, 0, 0, numbers), [1, 2, 3, 0])
        self.edges_of_length(lambda count: table(1, 0, 0, [1] * count), 20)
        self.assertEqual(self.answer(table(*good)), [0, 1])

    def test_without(self):
        self.edges(without, [1, 1, 0, 0], 0, 1, 99)
        self.edges(without, [1, 1, 0, 0], 1, 1, 99)
        self.edges(without, [1, 1, 0, 0], 2, 0, 100000)
        self.edges(without, [1, 1, 0, 0], 3, 0, 1)
        self.assertEqual(self.answer(without(99, 99, 100000, 1)), [0, 1, 100002, -1, 2, 100001, -1])

    def test_needed(self):
        self.edges(needed, [1, 0], 0, 1, 99)
        self.edges(needed, [1, 0], 1, 0, 1)
        self.assertEqual(self.answer(needed(99, 1)), [0, 1, 99])

    def test_round_trip(self):
        self.edges(round_trip, [1, 2, 0, 0], 0, 1, 99)
        self.edges(round_trip, [1, 2, 0, 0], 1, 1, 99)
        self.edges(round_trip, [1, 2, 0, 0], 2, 0, 100000)
        self.edges(round_trip, [1, 2, 0, 0], 3, 0, 1000)
        self.assertEqual(self.answer(round_trip(99, 1, 100000, 1000)), [0, 100002, 101004])

    def test_within(self):
        self.edges(within, [1, 0, 0, 0], 0, 1, 99)
        self.edges(within, [1, 0, 0, 0], 1, 0, 100000)
        self.edges(within, [1, 0, 0, 0], 2, 0, 100000)
        self.edges(within, [1, 0, 0, 0], 3, 0, 1)
        self.assertEqual(self.answer(within(99, 100000, 100000, 1)), [0, 1, 2, 99])

    def test_ramp(self):
        good = [2, 0, 0, 1, [5, 5]]
        self.edges(ramp, good, 0, 1, 8)
        self.edges(ramp, good, 1, 0, 1000000)
        self.edges(ramp, good, 2, 0, 63)
        self.edges(ramp, good, 3, 0, 63)
        self.members(lambda numbers: ramp(2, 0, 0, 1, numbers), [5, 5, 5, 5])
        self.edges_of_length(lambda count: ramp(1, 0, 0, 1, [5] * count), 64)
        self.edges_of_length(lambda count: ramp(8, 0, 0, 1, [5] * count), 64)

    def test_begins(self):
        self.edges(begins, [1, 0, 0, 0], 0, 1, 99)
        self.edges(begins, [1, 0, 0, 0], 1, 0, 100000)
        self.edges(begins, [1, 0, 0, 0], 2, 0, 1)
        self.edges(begins, [1, 0, 0, 0], 3, 0, 1)
        self.assertEqual(self.answer(begins(99, 100000, 1, 1)), [0, 100000, 100001])

    def members(self, make, good):
        """A list's members: at each place refused with -1 just when it's not 0 to 1000000."""
        for place in range(len(good)):
            self.edges(lambda number: make(good[:place] + [number] + good[place + 1:]), [good[place]], 0, 0, 1000000)

    def edges_of_length(self, make, most):
        for count in (0, 1, most - 1, most):
            with self.subTest(count=count):
                self.assertNotEqual(self.answer(make(count)), [-1])
        for count in (most + 1, most + 2, 2000):
            with self.subTest(count=count):
                self.assertEqual(self.answer(make(count)), [-1])

    def test_texts(self):
        for make in (read, look):
            for number in (-1, 256, 1000, -FAR, FAR):
                for text in ([number], list(b"rem ") + [number], list(b"x\n") + [number], [number] + list(b"\nx"),
                             list(b"junction 7 0\n") + [number]):
                    with self.subTest(call=make(text)):
                        self.assertEqual(self.answer(make(text)), [-1])
            self.assertEqual(self.answer(make(list(b"rem ") + [0, 255])), [0, 0, 4, 2])
            self.assertEqual(self.answer(make([0])), [0, 1, 1, 1])
            self.assertEqual(self.answer(make([255])), [0, 1, 1, 1])

    def test_text_of_2000_and_one_longer(self):
        for make in (read, look):
            self.assertEqual(self.answer(make(" " * 2000)), [0, 0, 4, 2])
            self.assertEqual(self.answer(make(" " * 2001)), [-1])
            self.assertEqual(self.answer(make("x" * 2001)), [-1])


class TestOrder(unittest.TestCase):
    def answer(self, call):
        return last(read(NET), call)

    def test_outside_ahead_of_no_road(self):
        for call in (close(50, 100001, 5), close(50, 5, -1), road(50, 2)):
            self.assertEqual(self.answer(call), [-1])

    def test_outside_ahead_of_no_junction(self):
        for call in (times(50, -1, 0), times(50, 0, 2), route(50, 51, 100001, 0), route(50, 1, 0, -1),
                     route(50, 0, 0, 0), route(100, 50, 0, 0)):
            self.assertEqual(self.answer(call), [-1])

    def test_outside_ahead_of_both_in_the_later_calls(self):
        for call in (check(50, -1, 0, []), check(50, 0, 2, []), check(50, 0, 0, [1, 1000001]),
                     check(50, 0, 0, [0] * 61), table(50, 100001, 0, [1] * 4), table(50, 0, -1, [1] * 4),
                     table(50, 0, 0, [1] * 21), table(50, 0, 0, [-1]), without(50, 0, 0, 0), without(0, 50, 0, 0),
                     without(50, 50, -1, 0), without(50, 50, 0, 2), without(50, 1, 100001, 0),
                     without(1, 50, 0, -1), needed(50, 2), round_trip(50, 0, 0, 0), round_trip(0, 50, 0, 0),
                     round_trip(50, 50, -1, 0), round_trip(50, 50, 0, 1001), within(50, -1, 0, 0),
                     within(50, 0, 100001, 0), within(50, 0, 0, 2), begins(50, -1, 0, 0), begins(50, 0, 2, 0),
                     begins(50, 0, 0, 2)):
            with self.subTest(call=call):
                self.assertEqual(self.answer(call), [-1])

    def test_no_road_ahead_of_no_junction(self):
        # Junctions 2 and 5 are there, roads of these numbers aren't; nor is a junction 50.
        for call in (without(2, 50, 0, 0), without(5, 1, 0, 0), without(50, 50, 100000, 1), begins(2, 0, 0, 0)):
            with self.subTest(call=call):
                self.assertEqual(self.answer(call), [-3])
        self.assertEqual(self.answer(without(1, 50, 0, 0)), [-2])

    def test_no_junction_in_the_later_calls(self):
        for call in (check(3, 0, 0, []), check(3, 0, 0, [1, 0]), table(3, 0, 0, [1] * 4), without(1, 3, 0, 0),
                     needed(3, 0), round_trip(3, 1, 0, 0), round_trip(1, 3, 0, 0), round_trip(3, 3, 0, 0),
                     within(3, 0, 0, 0)):
            with self.subTest(call=call):
                self.assertEqual(self.answer(call), [-2])

    def test_no_junction_ahead_of_the_further_ones(self):
        for call in (check(3, 0, 0, [1]), table(3, 0, 0, []), table(3, 0, 0, [1] * 5), round_trip(3, 5, 0, 0),
                     round_trip(5, 3, 0, 0)):
            with self.subTest(call=call):
                self.assertEqual(self.answer(call), [-2])
        for call, refusal in ((check(1, 0, 0, [1]), -8), (table(1, 0, 0, []), -8), (table(1, 0, 0, [1] * 5), -8),
                              (round_trip(1, 5, 0, 0), -7), (round_trip(5, 1, 0, 0), -7)):
            with self.subTest(call=call):
                self.assertEqual(self.answer(call), [refusal])

    def test_outside_ahead_of_an_odd_or_wrong_count(self):
        self.assertEqual(self.answer(check(1, 0, 0, [1, 0, -1])), [-1])
        self.assertEqual(self.answer(check(1, 0, 0, [1, 0, 1000001])), [-1])
        self.assertEqual(self.answer(check(1, 0, 0, [1] * 61)), [-1])
        self.assertEqual(self.answer(check(1, 0, 0, [1] * 59)), [-8])
        self.assertEqual(self.answer(table(1, 0, 0, [1, 1000001])), [-1])
        self.assertEqual(self.answer(table(1, 0, 0, [1] * 20)), [-8])

    def test_an_odd_count_ahead_of_steps_that_can_not_be_made(self):
        self.assertEqual(self.answer(check(1, 0, 0, [50, 0, 50])), [-8])
        self.assertEqual(self.answer(check(1, 0, 0, [50, 0])), [0, 0, 0])

    def test_outside_ahead_of_the_further_ones(self):
        self.assertEqual(self.answer(close(1, 100001, 7)), [-1])
        self.assertEqual(self.answer(close(1, 7, -1)), [-1])
        self.assertEqual(self.answer(route(1, 5, -1, 0)), [-1])

    def test_no_road(self):
        # Junctions 2 and 5 are there, roads of these numbers aren't.
        for call in (close(2, 1, 2), free(2), road(2, 0), close(5, 1, 2), free(50), road(50, 1)):
            self.assertEqual(self.answer(call), [-3])

    def test_no_road_ahead_of_the_further_ones(self):
        full = NET + lines(*[f"closed 1 {minute} {minute + 1}" for minute in range(30, 49)])
        told = ask(read(full), close(50, 5, 5), close(50, 5, 6), close(1, 5, 5), close(1, 6, 5), close(1, 5, 6))
        self.assertEqual(told[1:], [[-3], [-3], [-5], [-5], [-6]])

    def test_no_junction(self):
        for call in (times(3, 0, 0), route(3, 1, 0, 0), route(1, 3, 0, 0), route(3, 3, 0, 0), route(3, 4, 0, 1)):
            self.assertEqual(self.answer(call), [-2])

    def test_no_junction_ahead_of_no_earliest_minute(self):
        self.assertEqual(self.answer(route(5, 3, 0, 0)), [-2])
        self.assertEqual(self.answer(route(3, 5, 0, 0)), [-2])
        self.assertEqual(self.answer(route(1, 5, 0, 0)), [-7])

    def test_on_a_net_without_anything(self):
        self.assertEqual(ask(close(1, 1, 2), free(1), road(1, 0), times(1, 0, 0), route(1, 1, 0, 0), undo()),
                         [[-3], [-3], [-3], [-2], [-2], [-4]])
        self.assertEqual(ask(check(1, 0, 0, []), table(1, 0, 0, []), without(1, 1, 0, 0), needed(1, 0),
                             round_trip(1, 1, 0, 0), within(1, 0, 0, 0), begins(1, 0, 0, 0)),
                         [[-2], [-2], [-3], [-2], [-2], [-2], [-3]])

    def test_close_needs_an_end_above_its_beginning(self):
        self.assertEqual(self.answer(close(1, 5, 5)), [-5])
        self.assertEqual(self.answer(close(1, 6, 5)), [-5])
        self.assertEqual(self.answer(close(1, 5, 6)), [0])


class TestNothingChanged(unittest.TestCase):
    def test_refusals_change_nothing(self):
        refused = [read([256]), look([-1]), close(100, 1, 2), close(50, 1, 2), close(1, 2, 2), free(0), free(50),
                   road(0, 0), road(50, 0), times(0, 0, 0), times(50, 0, 0), route(1, 0, 0, 0), route(50, 1, 0, 0),
                   route(1, 5, 0, 0), read(list(b"junction 7 0\n") + [300]), check(0, 0, 0, []), check(50, 0, 0, []),
                   check(1, 0, 0, [1]), table(0, 0, 0, []), table(50, 0, 0, []), table(1, 0, 0, []),
                   without(0, 1, 0, 0), without(50, 1, 0, 0), without(1, 50, 0, 0), needed(0, 0), needed(50, 0),
                   round_trip(1, 2, 0, 1001), round_trip(50, 1, 0, 0), round_trip(1, 5, 0, 0), within(1, 0, -1, 0),
                   within(50, 0, 0, 0), ramp(0, 0, 0, 0, [1]), ramp(1, 0, 0, 0, []), ramp(1, 0, 0, 1, [1]),
                   ramp(1, 0, 0, 1, [1, 2]), begins(1, 0, 0, 2), begins(50, 0, 0, 0)]
        for call in refused:
            with self.subTest(call=call):
                told = ask(read(NET), call, write(), undo(), undo())
                self.assertEqual(len(told[1]), 1)
                self.assertLess(told[1][0], 0)
                self.assertEqual(bytes(told[2][1:]).decode(), NET)
                self.assertEqual(told[3:], [[0], [-4]])

    def test_refused_undo_changes_nothing(self):
        self.assertEqual(ask(undo(), write(), read("junction 1 0"), undo(), undo(), write()),
                         [[-4], [0], [0, 0, 1, 0], [0], [-4], [0]])

    def test_refused_close_at_twenty_changes_nothing(self):
        full = NET + lines(*[f"closed 1 {minute} {minute + 1}" for minute in range(30, 49)])
        self.assertEqual(written(read(full), close(1, 5, 6)), full)
        self.assertEqual(ask(read(full), close(1, 5, 6), undo(), undo())[1:], [[-6], [0], [-4]])


class TestWhatIsAChange(unittest.TestCase):
    def test_calls_that_only_tell_are_none(self):
        told = ask(read(NET), look("junction 7 0"), write(), road(1, 0), times(1, 0, 0), route(1, 2, 0, 0), undo(),
                   undo())
        self.assertEqual(told[6:], [[0], [-4]])
        told = ask(read(NET), check(1, 0, 0, [1, 0]), table(1, 0, 0, [1, 2, 3, 0]), without(1, 1, 0, 0), needed(1, 0),
                   round_trip(1, 2, 0, 0), within(1, 0, 1, 0), ramp(1, 0, 0, 0, [1]), begins(1, 0, 0, 0), net(),
                   write(), undo(), undo())
        self.assertTrue(all(answer[0] == 0 for answer in told[:11]))
        self.assertEqual(bytes(told[10][1:]).decode(), NET)
        self.assertEqual(told[11:], [[0], [-4]])

    def test_an_empty_text_is_one(self):
        self.assertEqual(ask(read(""), undo(), undo()), [[0, 0, 0, 0], [0], [-4]])

    def test_freeing_a_road_without_closings_is_one(self):
        told = ask(read(NET), free(99), undo(), write(), undo(), undo())
        self.assertEqual(told[1:3], [[0, 0], [0]])
        self.assertEqual(bytes(told[3][1:]).decode(), NET)
        self.assertEqual(told[4:], [[0], [-4]])

    def test_undo_of_each_change(self):
        for call in (read("junction 7 0"), close(99, 1, 2), free(1)):
            with self.subTest(call=call):
                self.assertNotEqual(written(read(NET), call), NET)
                self.assertEqual(written(read(NET), call, undo()), NET)
                self.assertEqual(written(read(NET), call, undo(), undo()), "")

    def test_undo_is_no_change(self):
        told = ask(read("junction 1 0"), read("junction 2 0"), undo(), undo(), undo(), write())
        self.assertEqual(told[2:], [[0], [0], [-4], [0]])


if __name__ == "__main__":
    unittest.main()
