"""How calls are handed in and answers given back."""

import unittest

from mineroads.roads import answers
from tests.helper import (
    begins, check, close, cut_answers, flat, free, lines, look, needed, net, ramp, read, road, round_trip, route, table,
    times, undo, within, without, write,
)

NET = lines("junction 1 0", "junction 2 100", "road 3 1 2 10000 2", "speed 10 50 20 100 40", "closed 3 4 9")
CALLS = [look(NET), read(NET), write(), road(3, 0), times(1, 0, 1), route(1, 2, 0, 0), close(3, 20, 30), free(3),
         undo(), undo(), undo(), undo(), times(1, 0, 0), read("x"), read([256])]

# Every call there is, on one object. Road 3 takes 2 minutes up empty, 5 loaded, down 1 empty and 3 loaded.
EVERY_CALL = [
    (look(NET), [0, 0, 2, 1]), (net(), [0, 0, 0, 0, 0]), (read(NET), [0, 0, 2, 1]), (write(), [0] + list(NET.encode())),
    (net(), [0, 2, 1, 0, 2, 100, 1, 3, 1, 2, 10000, 2, 1, 10, 50, 20, 100, 40, 1, 3, 4, 9]),
    (road(3, 1), [0, 1, 2, 5, 3]), (times(1, 0, 1), [0, 0, 14]), (route(1, 2, 0, 1), [0, 14, 3, 9]),
    (check(1, 0, 1, [3, 9, 3, 14]), [0, 1, 1, 17]), (check(1, 0, 1, [3, 9, 3, 13]), [0, 0, 1]),
    (check(1, 0, 1, [3]), [-8]), (check(1, 0, 1, []), [0, 1, 1, 0]),
    (table(1, 0, 1, [1, 15]), [0, 1]), (table(1, 0, 0, [1, 15]), [0, 0]), (table(1, 0, 1, []), [-8]),
    (without(3, 1, 0, 1), [0, 2, 14, -1]), (without(3, 2, 2, 0), [0, 1, 3, -1]), (without(4, 1, 0, 0), [-3]),
    (needed(1, 0), [0, 3]), (needed(4, 0), [-2]),
    (round_trip(1, 2, 0, 10), [0, 14, 25]), (round_trip(2, 1, 0, 0), [0, 3, 11]),
    (within(1, 0, 13, 1), [0, 1]), (within(1, 0, 14, 1), [0, 1, 2]),
    (ramp(2, 3, 3, 0, [0, 3, 9, 6]), [0, 3, 1, 0]), (ramp(2, 3, 0, 2, [0, 3, 9, 6]), [0, 0, 1, 3, 2]),
    (ramp(2, 2, 3, 0, [0, 3, 9, 6]), [-7]), (ramp(2, 2, 3, 0, []), [-8]), (ramp(2, 2, 4, 0, [1, 1, 1, 1]), [-9]),
    (begins(3, 2, 0, 0), [0, 2, 4]), (begins(3, 3, 0, 0), [0, 9, 11]), (begins(3, 3, 0, 1), [0, 3, 4]),
    (close(3, 9, 20), [0]), (begins(3, 3, 0, 0), [0, 20, 22]), (round_trip(1, 2, 0, 10), [0, 25, 36]),
    (check(1, 0, 1, [3, 9]), [0, 0, 0]), (free(3), [0, 2]), (table(1, 0, 1, [1, 6]), [0, 1]),
    (net(), [0, 2, 1, 0, 2, 100, 1, 3, 1, 2, 10000, 2, 1, 10, 50, 20, 100, 40, 0]),
    (undo(), [0]), (undo(), [0]), (begins(3, 3, 0, 0), [0, 9, 11]), (undo(), [0]), (undo(), [-4]),
    (net(), [0, 0, 0, 0, 0]), (check(1, 0, 1, []), [-2]), (begins(3, 3, 0, 0), [-3]),
]


class TestAnswers(unittest.TestCase):
    def test_number_by_number(self):
        text = list(NET.encode())
        self.assertEqual(answers(flat(CALLS)), (
            [4, 0, 0, 2, 1] + [4, 0, 0, 2, 1] + [1 + len(text), 0] + text + [5, 0, 1, 2, 2, 1] + [3, 0, 0, 14]
            + [4, 0, 2, 3, 0] + [1, 0] + [2, 0, 2] + [1, 0] + [1, 0] + [1, 0] + [1, -4] + [1, -2]
            + [4, 0, 1, 1, 1] + [1, -1]))

    def test_one_call_alone(self):
        self.assertEqual(answers([2]), [1, 0])
        self.assertEqual(answers([3]), [1, -4])
        self.assertEqual(answers([0, 0]), [4, 0, 0, 0, 0])
        self.assertEqual(answers([1, 1, 10]), [4, 0, 0, 0, 0])

    def test_every_call_in_one_list(self):
        told = answers(flat([call for call, answer in EVERY_CALL]))
        for (call, answer), found in zip(EVERY_CALL, cut_answers(told)):
            with self.subTest(call=call):
                self.assertEqual(found, answer)
        self.assertEqual(told, flat([[len(answer)] + answer for call, answer in EVERY_CALL]))
        self.assertEqual(set(call[0] for call, answer in EVERY_CALL), set(range(18)))

    def test_kinds(self):
        for calls in (CALLS, [call for call, answer in EVERY_CALL]):
            told = answers(flat(calls))
            self.assertIs(type(told), list)
            self.assertTrue(all(type(number) is int for number in told))

    def test_what_is_handed_in_is_as_it_was(self):
        for calls in (CALLS, [call for call, answer in EVERY_CALL]):
            handed = flat(calls)
            before = list(handed)
            answers(handed)
            self.assertEqual(handed, before)

    def test_what_is_handed_in_is_not_changed_for_a_while_either(self):
        # A list that refuses every change.
        class Fixed(list):
            def refuse(self, *arguments):
                raise AssertionError("changed")

            append = extend = insert = pop = remove = clear = reverse = sort = refuse
            __setitem__ = __delitem__ = __iadd__ = __imul__ = refuse

        handed = flat([call for call, answer in EVERY_CALL])
        self.assertEqual(answers(Fixed(handed)), answers(handed))

    def test_asked_twice_answers_the_same(self):
        for calls in (CALLS, [call for call, answer in EVERY_CALL]):
            handed = flat(calls)
            first = answers(handed)
            kept = list(first)
            answers(flat([read("junction 50 1\njunction 51 1"), write(), ramp(2, 0, 0, 1, [1, 1])]))
            self.assertEqual(answers(handed), kept)
            self.assertEqual(first, kept)

    def test_each_time_a_new_object(self):
        answers(flat([read(NET)]))
        self.assertEqual(answers(flat([write(), undo()])), [1, 0, 1, -4])

    def test_answers_are_the_askers_own(self):
        told = answers(flat(CALLS))
        kept = list(told)
        told.clear()
        self.assertEqual(answers(flat(CALLS)), kept)

    def test_numbers_of_a_row_are_not_taken_for_calls(self):
        self.assertEqual(answers([0, 3, 2, 2, 2, 2]), [4, 0, 1, 1, 1, 1, 0])
        self.assertEqual(answers([5, 2, 2]), [1, -3, 1, 0])
        self.assertEqual(answers([8, 3, 3, 3, 1, 3]), [1, -2, 1, -4])
        self.assertEqual(answers([9, 3, 3, 1, 2, 3, 3, 3]), [1, -2, 1, -4])
        self.assertEqual(answers([10, 3, 3, 1, 2, 3, 3, 3]), [1, -2, 1, -4])
        self.assertEqual(answers([11, 3, 3, 3, 1, 3]), [1, -3, 1, -4])
        self.assertEqual(answers([12, 3, 1, 3]), [1, -2, 1, -4])
        self.assertEqual(answers([13, 3, 3, 3, 3, 3]), [1, -2, 1, -4])
        self.assertEqual(answers([14, 3, 3, 3, 1, 3]), [1, -2, 1, -4])
        self.assertEqual(answers([15, 3, 3, 3, 3, 3, 3, 3, 3, 3]), [1, -9, 1, -4])
        self.assertEqual(answers([15, 3, 3, 0, 0, 0, 3]), [1, -8, 1, -4])
        self.assertEqual(answers([16, 3, 3, 1, 1, 3]), [1, -3, 1, -4])
        self.assertEqual(answers([17, 3]), [5, 0, 0, 0, 0, 0, 1, -4])

    def test_four_hundred_calls(self):
        junctions = [f"junction {number} 0" for number in range(1, 11)]
        roads = [f"road {number} {1 + number % 10} {1 + (number * 3 + 1) % 10} 5000 2"
                 for number in range(1, 30) if number % 10 != (number * 3 + 1) % 10][:20]
        closings = [f"closed {roads[0].split()[1]} {5 * number} {5 * number + 4}" for number in range(20)]
        text = lines(*junctions, *roads, "speed 0 10 10 10 10", *closings)
        told = answers(flat([read(text)] + [times(1, 0, 0), route(1, 10, 0, 1), road(1, 0)] * 133))
        self.assertEqual(told[:5], [4, 0, 0, 10, 20])
        # The same three calls answer the same each time.
        once = told[5:5 + (len(told) - 5) // 133]
        self.assertEqual(told[5:], once * 133)

    def test_four_hundred_calls_of_every_kind(self):
        calls = [call for call, answer in EVERY_CALL]
        told = [answer for call, answer in EVERY_CALL]
        # The calls end as they began, with no net and none before, so they may be made again and again.
        times_over = 400 // len(calls)
        rest = 400 - times_over * len(calls)
        found = cut_answers(answers(flat(calls * times_over + [net()] * rest)))
        self.assertEqual(len(found), 400)
        self.assertEqual(found, told * times_over + [[0, 0, 0, 0, 0]] * rest)

    def test_the_longest_list(self):
        # 17000 numbers: 242 ramps of 64 heights, and what's left of them filled with calls of one number.
        long_ramp = ramp(1, 0, 0, 63, [5] * 64)
        calls = [long_ramp] * 242
        handed = flat(calls) + [3] * 60
        self.assertEqual(len(handed), 17000)
        self.assertEqual(cut_answers(answers(handed)), [[0] + list(range(64))] * 242 + [[-4]] * 60)
        # A row of 2000 numbers is refused as too long, and the call behind it is found.
        self.assertEqual(answers(flat([check(1, 0, 0, [0] * 2000), table(1, 0, 0, [0] * 2000), net(),
                                       ramp(1, 0, 0, 0, [0] * 2000), undo()])),
                         [1, -1, 1, -1, 5, 0, 0, 0, 0, 0, 1, -1, 1, -4])


if __name__ == "__main__":
    unittest.main()
