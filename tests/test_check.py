"""Check: trips that are told, step by step."""

import unittest

from tests.helper import ask, check, close, free, last, level_net, lines, read, route, times, undo

# Roads of 2, 3 and 4 minutes in a row, the last one gone from 3 to 4 only; road 2 is shut from 10 up to 20.
NET = level_net((1, 2, 3, 4), ("1 1 2 2000 2", "2 2 3 3000 2", "3 3 4 4000 1"), ("2 10 20",))


class TestTaken(unittest.TestCase):
    def answer(self, a, t, *numbers):
        return last(read(NET), check(a, t, 0, numbers))

    def test_no_steps_at_all(self):
        self.assertEqual(self.answer(1, 0), [0, 1, 1, 0])
        self.assertEqual(self.answer(4, 100000), [0, 1, 4, 100000])

    def test_one_step_each_way(self):
        self.assertEqual(self.answer(1, 0, 1, 0), [0, 1, 2, 2])
        self.assertEqual(self.answer(2, 7, 1, 7), [0, 1, 1, 9])

    def test_several_steps_with_waiting(self):
        self.assertEqual(self.answer(1, 0, 1, 0, 2, 2, 3, 5), [0, 1, 4, 9])
        self.assertEqual(self.answer(1, 5, 1, 8, 2, 20, 3, 1000), [0, 1, 4, 1004])

    def test_to_and_fro(self):
        self.assertEqual(self.answer(1, 0, 1, 0, 1, 2, 1, 4, 2, 6, 2, 20, 1, 23), [0, 1, 1, 25])

    def test_sixty_numbers(self):
        numbers = [number for count in range(30) for number in (1, 2 * count)]
        self.assertEqual(self.answer(1, 0, *numbers), [0, 1, 1, 60])

    def test_begun_at_the_greatest_number(self):
        self.assertEqual(self.answer(1, 0, 1, 1000000), [0, 1, 2, 1000002])
        self.assertEqual(self.answer(1, 100000, 1, 1000000, 2, 1000000), [0, 0, 1])

    def test_around_a_closing(self):
        self.assertEqual(self.answer(2, 0, 2, 7), [0, 1, 3, 10])
        self.assertEqual(self.answer(2, 0, 2, 20), [0, 1, 3, 23])
        self.assertEqual(self.answer(3, 0, 2, 7), [0, 1, 2, 10])


class TestNotTaken(unittest.TestCase):
    def answer(self, a, t, *numbers):
        return last(read(NET), check(a, t, 0, numbers))

    def test_no_such_road(self):
        for number in (0, 4, 99, 100, 1000000):
            with self.subTest(number=number):
                self.assertEqual(self.answer(1, 0, number, 0), [0, 0, 0])
                self.assertEqual(self.answer(1, 0, 1, 0, number, 5), [0, 0, 1])

    def test_one_way_road_the_other_way(self):
        self.assertEqual(self.answer(4, 0, 3, 0), [0, 0, 0])
        self.assertEqual(self.answer(3, 0, 3, 0, 3, 4), [0, 0, 1])

    def test_does_not_begin_where_one_is(self):
        self.assertEqual(self.answer(1, 0, 2, 0), [0, 0, 0])
        self.assertEqual(self.answer(1, 0, 1, 0, 3, 5), [0, 0, 1])
        self.assertEqual(self.answer(1, 0, 1, 0, 2, 2, 1, 5), [0, 0, 2])

    def test_before_t(self):
        self.assertEqual(self.answer(1, 6, 1, 5), [0, 0, 0])
        self.assertEqual(self.answer(1, 6, 1, 6), [0, 1, 2, 8])

    def test_before_one_came_there(self):
        self.assertEqual(self.answer(1, 0, 1, 3, 2, 4), [0, 0, 1])
        self.assertEqual(self.answer(1, 0, 1, 3, 2, 5), [0, 1, 3, 8])
        # At t already, but not there yet.
        self.assertEqual(self.answer(1, 3, 1, 3, 2, 3), [0, 0, 1])

    def test_while_it_can_not_be_begun(self):
        for minute in (8, 9, 10, 15, 19):
            with self.subTest(minute=minute):
                self.assertEqual(self.answer(2, 0, 2, minute), [0, 0, 0])
                self.assertEqual(self.answer(3, 0, 2, minute), [0, 0, 0])

    def test_each_of_several_closings_counts_in_any_order(self):
        told = ask(read(NET), close(2, 2, 4), close(2, 30, 31), *[check(2, 0, 0, [2, t]) for t in range(40)])[3:]
        free_minutes = [t for t in range(40) if told[t] == [0, 1, 3, t + 3]]
        self.assertEqual(free_minutes, [4, 5, 6, 7] + list(range(20, 28)) + list(range(31, 40)))
        self.assertTrue(all(told[t] == [0, 0, 0] for t in range(40) if t not in free_minutes))

    def test_the_first_of_several_that_can_not_be_made(self):
        self.assertEqual(self.answer(1, 0, 1, 0, 9, 0, 9, 0, 9, 0), [0, 0, 1])
        self.assertEqual(self.answer(1, 0, *[1, 0] * 30), [0, 0, 1])
        numbers = [number for count in range(29) for number in (1, 2 * count)]
        self.assertEqual(self.answer(1, 0, *numbers, 2, 7), [0, 0, 29])

    def test_on_a_net_that_changes(self):
        call = check(2, 0, 0, [2, 12])
        self.assertEqual(ask(read(NET), call, free(2), call, undo(), call, close(1, 0, 1), call)[1:],
                         [[0, 0, 0], [0, 1], [0, 1, 3, 15], [0], [0, 0, 0], [0], [0, 0, 0]])


class TestLoads(unittest.TestCase):
    STEEP = lines("junction 1 0", "junction 2 1000", "road 1 1 2 10000 2", "speed 100 50 0 100 20")

    def test_too_steep_for_a_load(self):
        self.assertEqual(ask(read(self.STEEP), check(1, 0, 0, [1, 0]), check(1, 0, 1, [1, 0]),
                             check(2, 0, 1, [1, 0]), check(2, 0, 0, [1, 0]))[1:],
                         [[0, 1, 2, 2], [0, 0, 0], [0, 1, 1, 5], [0, 1, 1, 1]])

    def test_no_speed_holds(self):
        text = lines("junction 1 0", "junction 2 1001", "road 1 1 2 10000 2", "speed 100 50 50 50 50")
        self.assertEqual(last(read(text), check(1, 0, 0, [1, 0])), [0, 0, 0])

    def test_a_closing_counts_with_the_minutes_of_the_load(self):
        text = lines("junction 1 0", "junction 2 1000", "road 1 1 2 10000 2", "speed 100 50 20 100 20", "closed 1 4 9")
        self.assertEqual(ask(read(text), check(1, 0, 0, [1, 2]), check(1, 0, 1, [1, 2]), check(1, 0, 1, [1, 9]))[1:],
                         [[0, 1, 2, 4], [0, 0, 0], [0, 1, 2, 14]])


class TestRoutes(unittest.TestCase):
    def test_what_route_tells_is_taken(self):
        told = ask(read(NET), route(1, 4, 6, 0), times(1, 6, 0))
        self.assertEqual(told[1], [0, 27, 1, 6, 2, 20, 3, 23])
        self.assertEqual(last(read(NET), check(1, 6, 0, told[1][2:])), [0, 1, 4, told[2][4]])

    def test_a_route_without_steps(self):
        told = last(read(NET), route(3, 3, 6, 1))
        self.assertEqual(last(read(NET), check(3, 6, 1, told[2:])), [0, 1, 3, 6])


if __name__ == "__main__":
    unittest.main()
