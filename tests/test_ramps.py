"""Ramps, by hand and held against all ramps there are."""

import random
import unittest

from tests.helper import ask, last, ramp, read, undo, write


def beside(p, q, nx):
    """As the document's words say it."""
    return p // nx == q // nx and abs(p - q) == 1 or abs(p - q) == nx


def all_ramps(nx, m, first, second, heights):
    """Every ramp that comes to no cell twice."""
    found = []
    left = [[first]]
    while left:
        cells = left.pop()
        if cells[-1] == second:
            found.append(cells)
            continue
        for cell in range(len(heights)):
            if cell not in cells and beside(cells[-1], cell, nx) and abs(heights[cells[-1]] - heights[cell]) <= m:
                left.append(cells + [cell])
    return found


class TestRamps(unittest.TestCase):
    def answer(self, *arguments):
        return last(ramp(*arguments))

    def test_one_cell_alone(self):
        self.assertEqual(self.answer(1, 0, 0, 0, [7]), [0, 0])
        self.assertEqual(self.answer(1, 1000000, 0, 0, [1000000]), [0, 0])

    def test_both_cells_the_same(self):
        self.assertEqual(self.answer(3, 0, 4, 4, [0, 5, 9, 14, 20, 27]), [0, 4])

    def test_nx_of_1(self):
        self.assertEqual(self.answer(1, 2, 0, 3, [0, 2, 4, 6]), [0, 0, 1, 2, 3])
        self.assertEqual(self.answer(1, 2, 3, 1, [0, 2, 4, 6]), [0, 3, 2, 1])

    def test_nx_of_8(self):
        self.assertEqual(self.answer(8, 0, 0, 7, [5] * 8), [0] + list(range(8)))
        self.assertEqual(self.answer(8, 0, 7, 0, [5] * 8), [0] + list(range(7, -1, -1)))

    def test_64_heights(self):
        self.assertEqual(self.answer(8, 0, 0, 63, [1] * 64), [0, 0, 1, 2, 3, 4, 5, 6, 7, 15, 23, 31, 39, 47, 55, 63])
        self.assertEqual(self.answer(1, 0, 63, 0, [1] * 64), [0] + list(range(63, -1, -1)))

    def test_a_difference_of_just_m_and_of_one_more(self):
        for heights in ([10, 15], [15, 10]):
            self.assertEqual(self.answer(2, 5, 0, 1, heights), [0, 0, 1])
            self.assertEqual(self.answer(2, 4, 0, 1, heights), [-7])
            self.assertEqual(self.answer(1, 5, 0, 1, heights), [0, 0, 1])
            self.assertEqual(self.answer(1, 4, 0, 1, heights), [-7])
        self.assertEqual(self.answer(2, 1000000, 0, 1, [0, 1000000]), [0, 0, 1])
        self.assertEqual(self.answer(2, 999999, 0, 1, [0, 1000000]), [-7])

    def test_only_each_and_the_next_count(self):
        self.assertEqual(self.answer(4, 5, 0, 3, [0, 5, 10, 15]), [0, 0, 1, 2, 3])

    def test_a_rows_end_and_the_next_rows_beginning(self):
        self.assertEqual(self.answer(3, 0, 2, 3, [0, 0, 1, 1, 0, 0]), [-7])
        self.assertEqual(self.answer(3, 0, 2, 3, [0] * 6), [0, 2, 1, 0, 3])
        self.assertEqual(self.answer(3, 0, 3, 2, [0] * 6), [0, 3, 0, 1, 2])

    def test_around_a_wall(self):
        heights = [0, 9, 0, 0,
                   0, 9, 0, 9,
                   0, 0, 0, 0]
        self.assertEqual(self.answer(4, 0, 0, 3, heights), [0, 0, 4, 8, 9, 10, 6, 2, 3])
        self.assertEqual(self.answer(4, 9, 0, 3, heights), [0, 0, 1, 2, 3])

    def test_fewest_cells_not_least_climbing(self):
        self.assertEqual(self.answer(3, 5, 0, 2, [0, 5, 0, 0, 0, 0]), [0, 0, 1, 2])

    def test_of_several_the_least_numbers_from_the_end_on(self):
        # From 0 to 8 there are six; back from 8 the least are 5, 2, 1.
        self.assertEqual(self.answer(3, 0, 0, 8, [0] * 9), [0, 0, 1, 2, 5, 8])
        self.assertEqual(self.answer(3, 0, 8, 0, [0] * 9), [0, 8, 5, 2, 1, 0])
        self.assertEqual(self.answer(3, 0, 2, 6, [0] * 9), [0, 2, 1, 0, 3, 6])
        self.assertEqual(self.answer(3, 0, 6, 2, [0] * 9), [0, 6, 3, 0, 1, 2])
        self.assertEqual(self.answer(2, 0, 0, 3, [0] * 4), [0, 0, 1, 3])
        self.assertEqual(self.answer(2, 0, 1, 2, [0] * 4), [0, 1, 0, 2])

    def test_the_least_number_by_these_heights_alone(self):
        self.assertEqual(self.answer(2, 0, 0, 3, [0, 1, 0, 0]), [0, 0, 2, 3])

    def test_no_ramp(self):
        self.assertEqual(self.answer(2, 3, 0, 3, [0, 4, 4, 8]), [-7])
        self.assertEqual(self.answer(3, 0, 0, 2, [0, 1, 0]), [-7])

    def test_held_against_all_ramps(self):
        several = 0
        none = 0
        for seed in range(300):
            draw = random.Random(seed)
            nx = draw.randint(1, 4)
            heights = [draw.choice((0, 0, 1, 3)) for count in range(nx * draw.randint(1, 3))]
            m, first, second = draw.choice((0, 1, 2)), draw.randrange(len(heights)), draw.randrange(len(heights))
            ramps = all_ramps(nx, m, first, second, heights)
            expected = [-7]
            if ramps:
                shortest = [cells for cells in ramps if len(cells) == min(len(other) for other in ramps)]
                expected = [0] + min(shortest, key=lambda cells: cells[::-1])
                several += len(shortest) > 1
            none += not ramps
            with self.subTest(seed=seed):
                self.assertEqual(self.answer(nx, m, first, second, heights), expected)
        # Both must be among these.
        self.assertGreater(several, 10)
        self.assertGreater(none, 10)


class TestRefusals(unittest.TestCase):
    def answer(self, *arguments):
        return last(ramp(*arguments))

    def test_heights_that_do_not_fill_rows(self):
        for nx, count in ((2, 1), (2, 3), (3, 4), (8, 7), (8, 9), (8, 63)):
            with self.subTest(nx=nx, count=count):
                self.assertEqual(self.answer(nx, 0, 0, 0, [0] * count), [-8])

    def test_no_heights(self):
        self.assertEqual(self.answer(1, 0, 0, 0, []), [-8])
        self.assertEqual(self.answer(8, 0, 63, 63, []), [-8])

    def test_a_cell_that_is_not_there(self):
        self.assertEqual(self.answer(2, 0, 4, 0, [0] * 4), [-9])
        self.assertEqual(self.answer(2, 0, 0, 4, [0] * 4), [-9])
        self.assertEqual(self.answer(2, 0, 4, 4, [0] * 4), [-9])
        self.assertEqual(self.answer(2, 0, 3, 3, [0] * 4), [0, 3])
        self.assertEqual(self.answer(1, 0, 63, 62, [0] * 63), [-9])
        self.assertEqual(self.answer(1, 0, 63, 63, [0] * 64), [0, 63])

    def test_order(self):
        self.assertEqual(self.answer(2, 0, 64, 5, [0] * 3), [-1])
        self.assertEqual(self.answer(2, 0, 5, 5, [0, 1, -1]), [-1])
        self.assertEqual(self.answer(0, 0, 5, 5, []), [-1])
        self.assertEqual(self.answer(2, 0, 5, 5, [0] * 3), [-8])
        self.assertEqual(self.answer(2, 0, 0, 5, [0, 9]), [-9])
        self.assertEqual(self.answer(2, 0, 0, 1, [0, 9]), [-7])

    def test_ramps_need_no_net_and_change_none(self):
        told = ask(ramp(2, 0, 0, 1, [4, 4]), undo(), read("junction 1 0"), ramp(2, 0, 0, 1, [4, 4]), write(), undo(),
                   undo())
        self.assertEqual(told, [[0, 0, 1], [-4], [0, 0, 1, 0], [0, 0, 1], [0] + list(b"junction 1 0\n"), [0], [-4]])


if __name__ == "__main__":
    unittest.main()
