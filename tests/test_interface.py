"""How calls are handed in and answers given back."""

import unittest

from mineroads.roads import answers
from tests.helper import close, flat, free, lines, look, read, road, route, times, undo, write

NET = lines("junction 1 0", "junction 2 100", "road 3 1 2 10000 2", "speed 10 50 20 100 40", "closed 3 4 9")
CALLS = [look(NET), read(NET), write(), road(3, 0), times(1, 0, 1), route(1, 2, 0, 0), close(3, 20, 30), free(3),
         undo(), undo(), undo(), undo(), times(1, 0, 0), read("x"), read([256])]


class TestAnswers(unittest.TestCase):
    def test_number_by_number(self):
        text = list(NET.encode())
        self.assertEqual(answers(flat(CALLS)), (
            [4, 0, 0, 2, 1] + [4, 0, 0, 2, 1] + [1 + len(text), 0] + text + [5, 0, 1, 2, 2, 1] + [3, 0, 0, 14]
            + [4, 0, 2, 3, 0] + [1, 0] + [2, 0, 2] + [1, 0] + [1, 0] + [1, 0] + [1, -4] + [1, -2]
            + [4, 0, 1, 1, 1] + [1, -1]))

    def test_one_call_alone(self):
        self.assertEqual(answers([2]), [1, 0])
        self.assertEqual(answers([3]), [1, -4])
        self.assertEqual(answers([0, 0]), [4, 0, 0, 0, 0])
        self.assertEqual(answers([1, 1, 10]), [4, 0, 0, 0, 0])

    def test_kinds(self):
        told = answers(flat(CALLS))
        self.assertIs(type(told), list)
        self.assertTrue(all(type(number) is int for number in told))

    def test_what_is_handed_in_is_as_it_was(self):
        handed = flat(CALLS)
        before = list(handed)
        answers(handed)
        self.assertEqual(handed, before)

    def test_asked_twice_answers_the_same(self):
        handed = flat(CALLS)
        first = answers(handed)
        kept = list(first)
        answers(flat([read("junction 50 1\njunction 51 1"), write()]))
        self.assertEqual(answers(handed), kept)
        self.assertEqual(first, kept)

    def test_each_time_a_new_object(self):
        answers(flat([read(NET)]))
        self.assertEqual(answers(flat([write(), undo()])), [1, 0, 1, -4])

    def test_answers_are_the_askers_own(self):
        told = answers(flat(CALLS))
        kept = list(told)
        told.clear()
        self.assertEqual(answers(flat(CALLS)), kept)

    def test_numbers_of_a_row_are_not_taken_for_calls(self):
        self.assertEqual(answers([0, 3, 2, 2, 2, 2]), [4, 0, 1, 1, 1, 1, 0])
        self.assertEqual(answers([5, 2, 2]), [1, -3, 1, 0])
        self.assertEqual(answers([8, 3, 3, 3, 1, 3]), [1, -2, 1, -4])

    def test_four_hundred_calls(self):
        junctions = [f"junction {number} 0" for number in range(1, 11)]
        roads = [f"road {number} {1 + number % 10} {1 + (number * 3 + 1) % 10} 5000 2"
                 for number in range(1, 30) if number % 10 != (number * 3 + 1) % 10][:20]
        closings = [f"closed {roads[0].split()[1]} {5 * number} {5 * number + 4}" for number in range(20)]
        text = lines(*junctions, *roads, "speed 0 10 10 10 10", *closings)
        told = answers(flat([read(text)] + [times(1, 0, 0), route(1, 10, 0, 1), road(1, 0)] * 133))
        self.assertEqual(told[:5], [4, 0, 0, 10, 20])
        # The same three calls answer the same each time.
        once = told[5:5 + (len(told) - 5) // 133]
        self.assertEqual(told[5:], once * 133)


if __name__ == "__main__":
    unittest.main()
