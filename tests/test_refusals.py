"""Refusals: ranges, their order, and that they change nothing."""

import unittest

from tests.helper import ask, close, free, last, lines, look, read, road, route, times, undo, write, written

NET = lines(
    "junction 1 0", "junction 2 0", "junction 99 0", "junction 5 0",
    "road 1 1 2 100 2", "road 99 2 99 100 2",
    "speed 0 1 1 1 1",
    "closed 1 10 20",
)
FAR = 1000000000000000000


class TestRanges(unittest.TestCase):
    def answer(self, call):
        return last(read(NET), call)

    def check(self, make, good, place, least, most):
        """The number at a place of a call's arguments: refused with -1 just when it's outside."""
        for number in (least, most):
            call = make(*good[:place], number, *good[place + 1:])
            with self.subTest(call=call):
                self.assertNotEqual(self.answer(call), [-1])
        for number in (least - 1, most + 1, -FAR, FAR):
            call = make(*good[:place], number, *good[place + 1:])
            with self.subTest(call=call):
                self.assertEqual(self.answer(call), [-1])

    def test_close(self):
        self.check(close, [1, 5, 6], 0, 1, 99)
        self.check(close, [1, 5, 6], 1, 0, 100000)
        self.check(close, [1, 5, 6], 2, 0, 100000)
        self.assertEqual(self.answer(close(1, 0, 100000)), [0])
        self.assertEqual(self.answer(close(99, 99999, 100000)), [0])

    def test_free(self):
        self.check(free, [1], 0, 1, 99)
        self.assertEqual(self.answer(free(1)), [0, 1])
        self.assertEqual(self.answer(free(99)), [0, 0])

    def test_road(self):
        self.check(road, [1, 0], 0, 1, 99)
        self.check(road, [1, 0], 1, 0, 1)
        self.assertEqual(self.answer(road(99, 1)), [0, 2, 99, 1, 1])

    def test_times(self):
        self.check(times, [1, 0, 0], 0, 1, 99)
        self.check(times, [1, 0, 0], 1, 0, 100000)
        self.check(times, [1, 0, 0], 2, 0, 1)
        self.assertEqual(self.answer(times(99, 100000, 1)), [0, 100002, 100001, 100000, -1])

    def test_route(self):
        self.check(route, [1, 2, 0, 0], 0, 1, 99)
        self.check(route, [1, 2, 0, 0], 1, 1, 99)
        self.check(route, [1, 2, 0, 0], 2, 0, 100000)
        self.check(route, [1, 2, 0, 0], 3, 0, 1)

    def test_texts(self):
        for make in (read, look):
            for number in (-1, 256, 1000, -FAR, FAR):
                for text in ([number], list(b"rem ") + [number], list(b"x\n") + [number], [number] + list(b"\nx"),
                             list(b"junction 7 0\n") + [number]):
                    with self.subTest(call=make(text)):
                        self.assertEqual(self.answer(make(text)), [-1])
            self.assertEqual(self.answer(make(list(b"rem ") + [0, 255])), [0, 0, 4, 2])
            self.assertEqual(self.answer(make([0])), [0, 1, 1, 1])
            self.assertEqual(self.answer(make([255])), [0, 1, 1, 1])

    def test_text_of_2000_and_one_longer(self):
        for make in (read, look):
            self.assertEqual(self.answer(make(" " * 2000)), [0, 0, 4, 2])
            self.assertEqual(self.answer(make(" " * 2001)), [-1])
            self.assertEqual(self.answer(make("x" * 2001)), [-1])


class TestOrder(unittest.TestCase):
    def answer(self, call):
        return last(read(NET), call)

    def test_outside_ahead_of_no_road(self):
        for call in (close(50, 100001, 5), close(50, 5, -1), road(50, 2)):
            self.assertEqual(self.answer(call), [-1])

    def test_outside_ahead_of_no_junction(self):
        for call in (times(50, -1, 0), times(50, 0, 2), route(50, 51, 100001, 0), route(50, 1, 0, -1),
                     route(50, 0, 0, 0), route(100, 50, 0, 0)):
            self.assertEqual(self.answer(call), [-1])

    def test_outside_ahead_of_the_further_ones(self):
        self.assertEqual(self.answer(close(1, 100001, 7)), [-1])
        self.assertEqual(self.answer(close(1, 7, -1)), [-1])
        self.assertEqual(self.answer(route(1, 5, -1, 0)), [-1])

    def test_no_road(self):
        # Junctions 2 and 5 are there, roads of these numbers aren't.
        for call in (close(2, 1, 2), free(2), road(2, 0), close(5, 1, 2), free(50), road(50, 1)):
            self.assertEqual(self.answer(call), [-3])

    def test_no_road_ahead_of_the_further_ones(self):
        full = NET + lines(*[f"closed 1 {minute} {minute + 1}" for minute in range(30, 49)])
        told = ask(read(full), close(50, 5, 5), close(50, 5, 6), close(1, 5, 5), close(1, 6, 5), close(1, 5, 6))
        self.assertEqual(told[1:], [[-3], [-3], [-5], [-5], [-6]])

    def test_no_junction(self):
        for call in (times(3, 0, 0), route(3, 1, 0, 0), route(1, 3, 0, 0), route(3, 3, 0, 0), route(3, 4, 0, 1)):
            self.assertEqual(self.answer(call), [-2])

    def test_no_junction_ahead_of_no_earliest_minute(self):
        self.assertEqual(self.answer(route(5, 3, 0, 0)), [-2])
        self.assertEqual(self.answer(route(3, 5, 0, 0)), [-2])
        self.assertEqual(self.answer(route(1, 5, 0, 0)), [-7])

    def test_on_a_net_without_anything(self):
        self.assertEqual(ask(close(1, 1, 2), free(1), road(1, 0), times(1, 0, 0), route(1, 1, 0, 0), undo()),
                         [[-3], [-3], [-3], [-2], [-2], [-4]])

    def test_close_needs_an_end_above_its_beginning(self):
        self.assertEqual(self.answer(close(1, 5, 5)), [-5])
        self.assertEqual(self.answer(close(1, 6, 5)), [-5])
        self.assertEqual(self.answer(close(1, 5, 6)), [0])


class TestNothingChanged(unittest.TestCase):
    def test_refusals_change_nothing(self):
        refused = [read([256]), look([-1]), close(100, 1, 2), close(50, 1, 2), close(1, 2, 2), free(0), free(50),
                   road(0, 0), road(50, 0), times(0, 0, 0), times(50, 0, 0), route(1, 0, 0, 0), route(50, 1, 0, 0),
                   route(1, 5, 0, 0), read(list(b"junction 7 0\n") + [300])]
        for call in refused:
            with self.subTest(call=call):
                told = ask(read(NET), call, write(), undo(), undo())
                self.assertEqual(len(told[1]), 1)
                self.assertLess(told[1][0], 0)
                self.assertEqual(bytes(told[2][1:]).decode(), NET)
                self.assertEqual(told[3:], [[0], [-4]])

    def test_refused_undo_changes_nothing(self):
        self.assertEqual(ask(undo(), write(), read("junction 1 0"), undo(), undo(), write()),
                         [[-4], [0], [0, 0, 1, 0], [0], [-4], [0]])

    def test_refused_close_at_twenty_changes_nothing(self):
        full = NET + lines(*[f"closed 1 {minute} {minute + 1}" for minute in range(30, 49)])
        self.assertEqual(written(read(full), close(1, 5, 6)), full)
        self.assertEqual(ask(read(full), close(1, 5, 6), undo(), undo())[1:], [[-6], [0], [-4]])


class TestWhatIsAChange(unittest.TestCase):
    def test_calls_that_only_tell_are_none(self):
        told = ask(read(NET), look("junction 7 0"), write(), road(1, 0), times(1, 0, 0), route(1, 2, 0, 0), undo(),
                   undo())
        self.assertEqual(told[6:], [[0], [-4]])

    def test_an_empty_text_is_one(self):
        self.assertEqual(ask(read(""), undo(), undo()), [[0, 0, 0, 0], [0], [-4]])

    def test_freeing_a_road_without_closings_is_one(self):
        told = ask(read(NET), free(99), undo(), write(), undo(), undo())
        self.assertEqual(told[1:3], [[0, 0], [0]])
        self.assertEqual(bytes(told[3][1:]).decode(), NET)
        self.assertEqual(told[4:], [[0], [-4]])

    def test_undo_of_each_change(self):
        for call in (read("junction 7 0"), close(99, 1, 2), free(1)):
            with self.subTest(call=call):
                self.assertNotEqual(written(read(NET), call), NET)
                self.assertEqual(written(read(NET), call, undo()), NET)
                self.assertEqual(written(read(NET), call, undo(), undo()), "")

    def test_undo_is_no_change(self):
        told = ask(read("junction 1 0"), read("junction 2 0"), undo(), undo(), undo(), write())
        self.assertEqual(told[2:], [[0], [0], [-4], [0]])


if __name__ == "__main__":
    unittest.main()
