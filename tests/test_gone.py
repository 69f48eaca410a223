"""Roads: in which ways they are gone, and how many minutes they take."""

import unittest

from tests.helper import ask, close, free, last, lines, read, road, times, undo, written


def asked(heights, length, ways, speeds):
    """What road answers of one road from junction 1 to 2, empty and loaded."""
    text = lines(f"junction 1 {heights[0]}", f"junction 2 {heights[1]}", f"road 3 1 2 {length} {ways}",
                 *[f"speed {speed}" for speed in speeds])
    told = ask(read(text), road(3, 0), road(3, 1))
    return told[1], told[2]


class TestWays(unittest.TestCase):
    def test_level_is_gone_upwards_both_ways(self):
        self.assertEqual(asked((50, 50), 6000, 2, ["0 10 20 30 60"]), ([0, 1, 2, 6, 6], [0, 1, 2, 3, 3]))

    def test_upwards_from_a_to_b(self):
        self.assertEqual(asked((0, 600), 6000, 2, ["100 10 20 30 60"]), ([0, 1, 2, 6, 2], [0, 1, 2, 3, 1]))

    def test_downwards_from_a_to_b(self):
        self.assertEqual(asked((600, 0), 6000, 2, ["100 10 20 30 60"]), ([0, 1, 2, 2, 6], [0, 1, 2, 1, 3]))

    def test_one_centimetre_is_not_level(self):
        self.assertEqual(asked((1, 0), 6000, 2, ["1 10 20 30 60"]), ([0, 1, 2, 2, 6], [0, 1, 2, 1, 3]))
        self.assertEqual(asked((0, 1), 6000, 2, ["1 10 20 30 60"]), ([0, 1, 2, 6, 2], [0, 1, 2, 3, 1]))

    def test_one_way(self):
        self.assertEqual(asked((0, 600), 6000, 1, ["100 10 20 30 60"]), ([0, 1, 2, 6, -1], [0, 1, 2, 3, -1]))
        self.assertEqual(asked((600, 0), 6000, 1, ["100 10 20 30 60"]), ([0, 1, 2, 2, -1], [0, 1, 2, 1, -1]))
        self.assertEqual(asked((5, 5), 6000, 1, ["100 10 20 30 60"]), ([0, 1, 2, 6, -1], [0, 1, 2, 3, -1]))

    def test_junctions_are_told_as_the_road_has_them(self):
        text = lines("junction 4 0", "junction 8 0", "road 1 8 4 100 2", "speed 0 1 1 1 1")
        self.assertEqual(last(read(text), road(1, 0)), [0, 8, 4, 1, 1])


class TestSpeeds(unittest.TestCase):
    def test_no_speed_at_all(self):
        self.assertEqual(asked((0, 0), 6000, 2, []), ([0, 1, 2, -1, -1],) * 2)

    def test_gradient_just_met(self):
        # 1000 * 30 is 5 * 6000.
        self.assertEqual(asked((0, 30), 6000, 2, ["5 60 60 60 60", "6 30 30 30 30"]), ([0, 1, 2, 1, 1],) * 2)

    def test_gradient_passed_by_a_little(self):
        self.assertEqual(asked((0, 31), 6000, 2, ["5 60 60 60 60", "6 30 30 30 30"]), ([0, 1, 2, 2, 2],) * 2)
        self.assertEqual(asked((31, 0), 6000, 2, ["5 60 60 60 60", "6 30 30 30 30"]), ([0, 1, 2, 2, 2],) * 2)

    def test_none_that_holds(self):
        self.assertEqual(asked((0, 36), 6000, 2, ["5 60 60 60 60", "6 30 30 30 30"]), ([0, 1, 2, 2, 2],) * 2)
        self.assertEqual(asked((0, 37), 6000, 2, ["5 60 60 60 60", "6 30 30 30 30"]), ([0, 1, 2, -1, -1],) * 2)
        self.assertEqual(asked((37, 0), 6000, 2, ["5 60 60 60 60", "6 30 30 30 30"]), ([0, 1, 2, -1, -1],) * 2)

    def test_first_of_several_holds_even_if_a_later_one_is_faster(self):
        self.assertEqual(asked((0, 0), 6000, 2, ["0 10 10 10 10", "5 60 60 60 60"]), ([0, 1, 2, 6, 6],) * 2)

    def test_gradient_0_is_for_level_roads_alone(self):
        self.assertEqual(asked((0, 1), 1000000, 2, ["0 60 60 60 60"]), ([0, 1, 2, -1, -1],) * 2)
        self.assertEqual(asked((1, 1), 1000000, 2, ["0 1000 1000 0 0"]), ([0, 1, 2, 10, 10],) * 2)

    def test_steepest(self):
        self.assertEqual(asked((0, 1000), 100, 2, ["10000 1 1 1 1"]), ([0, 1, 2, 1, 1],) * 2)
        self.assertEqual(asked((0, 1001), 100, 2, ["10000 1 1 1 1"]), ([0, 1, 2, -1, -1],) * 2)
        self.assertEqual(asked((1000000, 0), 1000000, 2, ["1000 1 1 1 1"]), ([0, 1, 2, 10000, 10000],) * 2)

    def test_speed_0_is_not_gone_so(self):
        for place, expected in enumerate((
                ([0, 1, 2, -1, 2], [0, 1, 2, 3, 1]),
                ([0, 1, 2, 6, 2], [0, 1, 2, -1, 1]),
                ([0, 1, 2, 6, -1], [0, 1, 2, 3, 1]),
                ([0, 1, 2, 6, 2], [0, 1, 2, 3, -1]))):
            paces = ["10", "20", "30", "60"]
            paces[place] = "0"
            with self.subTest(paces=paces):
                self.assertEqual(asked((0, 600), 6000, 2, ["100 " + " ".join(paces)]), expected)

    def test_a_speed_of_0_that_holds_is_not_passed_over(self):
        self.assertEqual(asked((0, 600), 6000, 2, ["100 0 0 0 0", "200 10 10 10 10"]), ([0, 1, 2, -1, -1],) * 2)


class TestMinutes(unittest.TestCase):
    def test_rounded_up(self):
        for length, minutes in ((1, 1), (999, 1), (1000, 1), (1001, 2), (1999, 2), (2000, 2), (2001, 3)):
            with self.subTest(length=length):
                self.assertEqual(asked((0, 0), length, 2, ["0 10 10 10 10"]), ([0, 1, 2, minutes, minutes],) * 2)

    def test_slowest_and_fastest(self):
        self.assertEqual(asked((0, 0), 1000000, 2, ["0 1 1000 1 1"]), ([0, 1, 2, 10000, 10000], [0, 1, 2, 10, 10]))
        self.assertEqual(asked((0, 0), 1, 2, ["0 1 1000 1 1"]), ([0, 1, 2, 1, 1],) * 2)


class TestCloseAndFree(unittest.TestCase):
    NET = lines("junction 1 0", "junction 2 0", "road 3 1 2 1000 2", "road 4 1 2 9000 2", "speed 0 10 10 10 10")

    def test_closing_stands_behind_the_others(self):
        self.assertEqual(written(read(self.NET), close(4, 7, 9), close(3, 1, 2), close(4, 0, 3)),
                         self.NET + lines("closed 4 7 9", "closed 3 1 2", "closed 4 0 3"))

    def test_free_takes_all_closings_of_its_road_alone(self):
        told = ask(read(self.NET), close(4, 7, 9), close(3, 1, 2), close(4, 7, 9), free(4), free(4))
        self.assertEqual(told[4:], [[0, 2], [0, 0]])
        self.assertEqual(written(read(self.NET), close(4, 7, 9), close(3, 1, 2), close(4, 7, 9), free(4)),
                         self.NET + "closed 3 1 2\n")

    def test_closings_do_not_change_what_road_tells(self):
        self.assertEqual(last(read(self.NET), close(3, 0, 100000), road(3, 0)), [0, 1, 2, 1, 1])

    def test_one_object_through_several_calls(self):
        self.assertEqual(
            ask(read(self.NET), road(3, 0), road(4, 1), times(1, 0, 0), close(3, 0, 5), times(1, 0, 0),
                close(3, 5, 20), times(1, 0, 0), undo(), times(1, 0, 0), free(3), times(1, 0, 0), undo(),
                times(2, 4, 1)),
            [[0, 0, 2, 2], [0, 1, 2, 1, 1], [0, 1, 2, 9, 9], [0, 0, 1], [0], [0, 0, 6],
             [0], [0, 0, 9], [0], [0, 0, 6], [0, 1], [0, 0, 1], [0],
             [0, 6, 4]])


if __name__ == "__main__":
    unittest.main()
