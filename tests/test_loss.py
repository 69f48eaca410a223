"""Without and needed: what the loss of a road changes."""

import unittest

from tests.helper import ask, close, last, level_net, lines, needed, read, times, undo, without

# 1 and 2 by roads 5 (2 minutes) and 6 (7 minutes); 3 behind 2 by road 7 alone; road 8 from 3 to 1 only; 4 stands alone.
NET = level_net((1, 2, 3, 4), ("5 1 2 2000 2", "6 1 2 7000 2", "7 2 3 3000 2", "8 3 1 9000 1"))


class TestWithout(unittest.TestCase):
    def answer(self, *arguments):
        return last(read(NET), without(*arguments))

    def test_a_road_that_changes_nothing(self):
        self.assertEqual(self.answer(6, 1, 0, 0), [0])
        self.assertEqual(self.answer(8, 1, 0, 1), [0])
        self.assertEqual(self.answer(7, 4, 0, 0), [0])

    def test_a_road_that_makes_some_later(self):
        self.assertEqual(self.answer(5, 1, 10, 0), [0, 2, 12, 17, 3, 15, 20])
        self.assertEqual(self.answer(5, 2, 10, 1), [0, 1, 12, 17])

    def test_a_road_without_which_some_can_not_be_reached(self):
        self.assertEqual(self.answer(7, 1, 0, 0), [0, 3, 5, -1])
        self.assertEqual(self.answer(7, 3, 0, 0), [0, 1, 5, 9, 2, 3, 11])

    def test_never_the_beginning_itself_nor_one_reached_in_neither_way(self):
        text = level_net((1, 2, 3), ("1 1 2 1000 2",))
        self.assertEqual(ask(read(text), without(1, 1, 0, 0), without(1, 3, 0, 0))[1:], [[0, 2, 1, -1], [0]])

    def test_in_the_junctions_order(self):
        text = level_net((9, 4, 7, 2), ("1 2 7 1000 2", "2 7 4 1000 2", "3 7 9 5000 2"))
        self.assertEqual(last(read(text), without(1, 2, 0, 0)), [0, 9, 6, -1, 4, 2, -1, 7, 1, -1])
        self.assertEqual(last(read(text), without(1, 9, 0, 0)), [0, 2, 6, -1])

    def test_loaded_and_empty(self):
        text = lines("junction 1 0", "junction 2 1000", "road 1 1 2 10000 2", "road 2 1 2 90000 2",
                     "speed 20 50 10 50 10", "speed 100 50 0 50 10")
        self.assertEqual(ask(read(text), without(1, 1, 0, 0), without(1, 1, 0, 1), without(2, 1, 0, 1))[1:],
                         [[0, 2, 2, 18], [0], [0, 2, 90, -1]])

    def test_closings_decide(self):
        call = without(5, 1, 0, 0)
        self.assertEqual(ask(read(NET), call, close(5, 0, 4), call, close(5, 4, 5), call, close(6, 0, 1), call,
                             undo(), call)[1:],
                         [[0, 2, 2, 7, 3, 5, 10], [0], [0, 2, 6, 7, 3, 9, 10], [0], [0], [0], [0, 2, 7, 8, 3, 10, 11],
                          [0], [0]])

    def test_nothing_is_lost(self):
        told = ask(read(NET), times(1, 0, 0), without(7, 1, 0, 0), times(1, 0, 0), undo(), undo())
        self.assertEqual(told[3], told[1])
        self.assertEqual(told[4:], [[0], [-4]])


class TestNeeded(unittest.TestCase):
    def test_ordinary(self):
        self.assertEqual(ask(read(NET), needed(1, 0), needed(2, 0), needed(3, 1), needed(4, 0))[1:],
                         [[0, 7], [0, 7], [0], [0]])

    def test_no_roads(self):
        self.assertEqual(last(read("junction 5 0"), needed(5, 1)), [0])

    def test_in_the_roads_order(self):
        text = level_net((1, 2, 3, 4), ("30 3 4 1000 2", "9 1 2 1000 2", "12 2 3 1000 2"))
        self.assertEqual(ask(read(text), needed(1, 0), needed(4, 0))[1:], [[0, 30, 9, 12]] * 2)

    def test_only_junctions_that_can_be_reached_count(self):
        # Road 3 leads into 3 from 4 alone, and 4 can't be reached.
        text = level_net((1, 2, 3, 4), ("1 1 2 1000 2", "3 4 3 1000 2"))
        self.assertEqual(ask(read(text), needed(1, 0), needed(3, 0))[1:], [[0, 1], [0, 3]])

    def test_one_way_roads(self):
        text = level_net((1, 2, 3), ("1 1 2 1000 1", "2 2 3 1000 1", "3 3 1 1000 1"))
        self.assertEqual(ask(read(text), needed(1, 0), needed(2, 0), needed(3, 0))[1:],
                         [[0, 1, 2], [0, 2, 3], [0, 1, 3]])

    def test_later_is_not_lost(self):
        text = level_net((1, 2), ("1 1 2 1000 2", "2 1 2 1000000 2"), ("2 0 100000",))
        self.assertEqual(last(read(text), needed(1, 0)), [0])

    def test_loaded_and_empty(self):
        text = lines("junction 1 0", "junction 2 1000", "road 1 1 2 10000 2", "road 2 1 2 90000 2",
                     "speed 20 50 10 50 10", "speed 100 50 0 50 10")
        self.assertEqual(ask(read(text), needed(1, 0), needed(1, 1), needed(2, 1))[1:], [[0], [0, 2], [0]])

    def test_twenty_of_them_on_the_greatest_net(self):
        row = [f"{n} {n} {n + 1} 1000 2" for n in range(1, 10)]
        across = [f"{n} {n - 10} {n - 8} 9000 2" for n in range(11, 19)]
        text = level_net(range(1, 11), row + across + ["50 1 10 50000 1", "51 1 10 50000 1", "52 1 10 50000 1"])
        self.assertEqual(ask(read(text), *[needed(1, 0)] * 20)[1:], [[0]] * 20)
        text = level_net(range(1, 11), row)
        self.assertEqual(ask(read(text), *[needed(5, 1)] * 20)[1:], [[0] + list(range(1, 10))] * 20)

    def test_held_against_without(self):
        for a in (1, 2, 3, 4):
            for l in (0, 1):
                told = ask(read(NET), needed(a, l), *[without(n, a, 0, l) for n in (5, 6, 7, 8)])[1:]
                self.assertEqual(told[0], [0] + [n for n, lost in zip((5, 6, 7, 8), told[1:]) if -1 in lost[3::3]])


if __name__ == "__main__":
    unittest.main()
