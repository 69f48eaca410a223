"""How many junctions, roads, speeds, closings and nets before there may be."""

import unittest

from tests.helper import ask, close, free, last, lines, read, undo, write, written

TEN = lines(*[f"junction {number} {number * 10}" for number in range(1, 11)])
TWENTY_ROADS = lines(*[f"road {number} 1 2 100 2" for number in range(1, 21)])
SIX_SPEEDS = lines(*[f"speed {gradient} 1 1 1 1" for gradient in range(0, 60, 10)])
TWENTY_CLOSINGS = lines(*[f"closed 1 {number} {number + 1}" for number in range(20)])


class TestFullNets(unittest.TestCase):
    def test_ten_junctions_and_one_more(self):
        self.assertEqual(ask(read(TEN), read("junction 11 0"), read("junction 10 0")),
                         [[0, 0, 10, 0], [0, 10, 1, 0], [0, 5, 1, 2]])
        self.assertEqual(ask(read(TEN + "junction 11 0"), write()), [[0, 10, 11, 0], [0]])

    def test_twenty_roads_and_one_more(self):
        told = ask(read(TEN), read(TWENTY_ROADS), read("road 21 1 2 100 2"), read("road 20 1 2 100 2"),
                   read("road 21 11 2 100 2"), read("road 21 1 11 100 2"), read("road 21 1 1 100 2"))
        self.assertEqual(told[1:], [[0, 0, 10, 20], [0, 10, 1, 0], [0, 5, 1, 2], [0, 9, 1, 3], [0, 9, 1, 4],
                                    [0, 6, 1, 4]])
        self.assertEqual(last(read(TEN + TWENTY_ROADS + "road 21 1 2 100 2")), [0, 10, 31, 0])

    def test_six_speeds_and_one_more(self):
        told = ask(read(SIX_SPEEDS), read("speed 60 1 1 1 1"), read("speed 50 1 1 1 1"))
        self.assertEqual(told, [[0, 0, 0, 0], [0, 10, 1, 0], [0, 6, 1, 2]])

    def test_twenty_closings_and_one_more(self):
        told = ask(read(TEN + TWENTY_ROADS), read(TWENTY_CLOSINGS), read("closed 2 1 2"), read("closed 21 1 2"),
                   read("closed 2 2 2"), close(2, 1, 2), close(21, 1, 2), close(2, 2, 2))
        self.assertEqual(told[1:], [[0, 0, 10, 20], [0, 10, 1, 0], [0, 9, 1, 2], [0, 6, 1, 4], [-6], [-3], [-5]])

    def test_nineteen_closings_leave_room_for_one(self):
        nineteen = TWENTY_CLOSINGS[:TWENTY_CLOSINGS.index("closed 1 19")]
        told = ask(read(TEN + TWENTY_ROADS + nineteen), close(2, 1, 2), close(2, 3, 4), undo(), read("closed 3 1 2"),
                   close(2, 3, 4), read("closed 3 5 6"))
        self.assertEqual(told[1:], [[0], [-6], [0], [0, 0, 10, 20], [-6], [0, 10, 1, 0]])

    def test_freed_closings_make_room(self):
        told = ask(read(TEN + TWENTY_ROADS + TWENTY_CLOSINGS), free(1), close(2, 1, 2))
        self.assertEqual(told[1:], [[0, 20], [0]])

    def test_each_limit_is_its_own(self):
        full = TEN + TWENTY_ROADS + SIX_SPEEDS + TWENTY_CLOSINGS
        self.assertEqual(last(read(full)), [0, 0, 10, 20])
        self.assertEqual(written(read(full)), full)
        for line in ("junction 11 0", "road 21 1 2 100 2", "speed 60 1 1 1 1", "closed 2 1 2"):
            with self.subTest(line=line):
                self.assertEqual(last(read(full), read(line)), [0, 10, 1, 0])

    def test_kind_3_ahead_of_kind_10(self):
        self.assertEqual(last(read(TEN), read("junction 11 x")), [0, 3, 1, 3])


class TestNetsBefore(unittest.TestCase):
    def test_twenty_changes_are_all_undone(self):
        changes = [read("junction 1 5")] + [read("")] * 19
        told = ask(*changes, *[undo()] * 21, write())
        self.assertEqual(told[20:40], [[0]] * 20)
        self.assertEqual(told[40:], [[-4], [0]])

    def test_of_twenty_one_changes_the_first_net_is_forgotten(self):
        changes = [read("junction 1 5")] + [read("")] * 20
        told = ask(*changes, *[undo()] * 21, write())
        self.assertEqual(told[21:41], [[0]] * 20)
        self.assertEqual(told[41], [-4])
        self.assertEqual(bytes(told[42][1:]), b"junction 1 5\n")

    def test_each_undo_goes_back_by_one_change(self):
        base = lines("junction 1 0", "junction 2 0", "road 1 1 2 5 2")
        calls = [read(base)]
        for minute in range(25):
            calls += [close(1, minute, minute + 1)] if minute < 15 else [free(1), close(1, minute, minute + 1)]
        nets = []
        for count in range(len(calls) + 1):
            nets.append(written(*calls[:count]) if count else "")
        told = ask(*calls, *[undo(), write()] * 21)
        behind = told[len(calls):]
        for back in range(20):
            self.assertEqual(behind[2 * back], [0])
            self.assertEqual(bytes(behind[2 * back + 1][1:]).decode(), nets[len(calls) - 1 - back])
        self.assertEqual(behind[40], [-4])
        self.assertEqual(behind[41], behind[39])

    def test_undone_changes_leave_room_for_others(self):
        calls = [read("")] * 20 + [undo()] * 5 + [read("")] * 5 + [undo()] * 21
        self.assertEqual(ask(*calls)[30:], [[0]] * 20 + [[-4]])


if __name__ == "__main__":
    unittest.main()
