"""Texts: lines, words, numbers, the five kinds of line, and faults."""

import unittest

from tests.helper import ask, last, lines, look, read, undo, write, written

BASE = lines(
    "junction 1 0",
    "junction 2 100",
    "road 7 1 2 1000 2",
    "speed 100 10 10 10 10",
    "closed 7 5 6",
)


class TestFaults(unittest.TestCase):
    def fault(self, line, kind, word):
        """The line's fault behind BASE, by read and by look, alone and in a later line."""
        with self.subTest(line=line):
            self.assertEqual(last(read(BASE), read(line)), [0, kind, 1, word])
            self.assertEqual(last(read(BASE), look(line)), [0, kind, 1, word])
            self.assertEqual(last(read(BASE + "\nrem\n" + line + "\nnonsense")), [0, kind, 8, word])

    def fine(self, line, junctions=2, roads=1):
        with self.subTest(line=line):
            self.assertEqual(last(read(BASE), read(line)), [0, 0, junctions, roads])

    def test_kind_1_first_word_unknown(self):
        for line in ("x", "Junction 3 5", "junctions 3 5", "junctio 3 5", "remark", "re", "REM x", "closed7 1 2",
                     "close 7 1 2", "roads 8 1 2 5 2", "speeds 200 1 1 1 1", "3 junction 5", "\tjunction 3 5",
                     "junction\t3 5", "\r", "\0", "junction,3 5"):
            self.fault(line, 1, 1)

    def test_kind_1_ahead_of_the_count_of_words(self):
        self.fault("bridge 1 2 3 4 5 6 7 8", 1, 1)

    def test_bytes_above_127_are_no_words_of_the_five(self):
        self.assertEqual(last(read([255])), [0, 1, 1, 1])
        self.assertEqual(last(read(list(b"rem ") + [0, 255, 9, 13])), [0, 0, 0, 0])

    def test_kind_2_count_of_words(self):
        for line in ("junction", "junction 3", "junction 3 5 6", "road", "road 8 1 2 5", "road 8 1 2 5 2 1",
                     "speed", "speed 200 1 1 1", "speed 200 1 1 1 1 1", "closed", "closed 7 1", "closed 7 1 2 3"):
            self.fault(line, 2, 0)

    def test_kind_2_ahead_of_kind_3(self):
        for line in ("junction x", "road x 1 2 5", "speed x 1 1 1", "closed x 1", "junction 3 5 x"):
            self.fault(line, 2, 0)

    def test_kind_3_junction(self):
        for line in ("junction 0 5", "junction 100 5", "junction x 5", "junction -3 5", "junction +3 5",
                     "junction 03 5", "junction 3. 5", "junction 0 x"):
            self.fault(line, 3, 2)
        for line in ("junction 3 1000001", "junction 3 x", "junction 3 -1", "junction 3 00", "junction 3 5a"):
            self.fault(line, 3, 3)
        self.fine("junction 3 0", junctions=3)
        self.fine("junction 99 1000000", junctions=3)

    def test_kind_3_road(self):
        good = ["8", "1", "2", "5", "2"]
        wrong = (("0", "100", "x", "01"), ("0", "100", "x", "01"), ("0", "100", "x", "01"),
                 ("0", "1000001", "x", "05"), ("0", "3", "x", "02"))
        for place in range(5):
            for word in wrong[place]:
                # What stands behind the first wrong word may be wrong too.
                words = good[:place] + [word] + good[place + 1:]
                self.fault("road " + " ".join(words), 3, place + 2)
                words = good[:place] + [word] + ["x"] * (4 - place)
                self.fault("road " + " ".join(words), 3, place + 2)
        for line in ("road 99 1 2 1 1", "road 1 2 1 1000000 2"):
            self.fine(line, roads=2)

    def test_kind_3_speed(self):
        good = ["200", "1", "1", "1", "1"]
        for place in range(5):
            most = 10000 if place == 0 else 1000
            for word in (str(most + 1), "x", "01", "-1"):
                words = good[:place] + [word] + ["x"] * (4 - place)
                self.fault("speed " + " ".join(words), 3, place + 2)
        self.fine("speed 10000 1000 1000 1000 1000")
        self.fine("speed 101 0 0 0 0")
        self.assertEqual(last(read("speed 0 0 0 0 0")), [0, 0, 0, 0])

    def test_kind_3_closed(self):
        for line in ("closed 0 1 2", "closed 100 1 2", "closed x x x", "closed 07 1 2"):
            self.fault(line, 3, 2)
        for line in ("closed 7 100001 x", "closed 7 -1 2", "closed 7 x 2", "closed 7 01 2"):
            self.fault(line, 3, 3)
        for line in ("closed 7 1 100001", "closed 7 1 -2", "closed 7 1 x", "closed 7 1 02"):
            self.fault(line, 3, 4)
        self.fine("closed 7 0 100000")
        self.fine("closed 7 99999 100000")
        self.fine("closed 7 0 1")

    def test_kind_3_ahead_of_what_the_net_holds(self):
        self.fault("junction 1 1000001", 3, 3)
        self.fault("road 7 50 50 0 2", 3, 5)
        self.fault("speed 100 1001 1 1 1", 3, 3)
        self.fault("closed 50 3 100001", 3, 4)

    def test_kind_5_junction(self):
        self.fault("junction 1 0", 5, 2)
        self.fault("junction 2 77", 5, 2)
        self.assertEqual(last(read("junction 4 1\njunction 5 1\njunction 4 2")), [0, 5, 3, 2])

    def test_kind_5_road_ahead_of_its_junctions(self):
        self.fault("road 7 1 2 5 2", 5, 2)
        self.fault("road 7 50 2 5 2", 5, 2)
        self.fault("road 7 1 50 5 2", 5, 2)
        self.fault("road 7 1 1 5 2", 5, 2)

    def test_kind_9_road(self):
        self.fault("road 8 50 2 5 2", 9, 3)
        self.fault("road 8 1 50 5 2", 9, 4)
        self.fault("road 8 50 51 5 2", 9, 3)
        self.fault("road 8 50 50 5 2", 9, 3)
        # A junction told in a later line isn't there yet.
        self.fault("road 8 1 3 5 2\njunction 3 0", 9, 4)

    def test_kind_6_road(self):
        self.fault("road 8 1 1 5 2", 6, 4)
        self.fault("road 8 2 2 5 1", 6, 4)

    def test_kind_6_speed(self):
        self.fault("speed 100 1 1 1 1", 6, 2)
        self.fault("speed 99 1 1 1 1", 6, 2)
        self.fault("speed 0 1 1 1 1", 6, 2)
        self.fine("speed 101 1 1 1 1")
        self.assertEqual(last(read("speed 5 1 1 1 1\nspeed 9 1 1 1 1\nspeed 7 1 1 1 1")), [0, 6, 3, 2])

    def test_kind_9_and_6_closed(self):
        self.fault("closed 8 1 2", 9, 2)
        self.fault("closed 8 2 1", 9, 2)
        self.fault("closed 7 2 2", 6, 4)
        self.fault("closed 7 3 2", 6, 4)
        self.fault("closed 7 0 0", 6, 4)
        self.fault("closed 7 100000 100000", 6, 4)
        # It's asked for a road, not for a junction of this number.
        self.fault("closed 1 1 2", 9, 2)

    def test_line_is_counted_from_1_with_lines_that_say_nothing(self):
        self.assertEqual(last(read("\n\n   \nrem\nx")), [0, 1, 5, 1])
        self.assertEqual(last(read("x\n")), [0, 1, 1, 1])

    def test_first_fault_ends(self):
        self.assertEqual(last(read("junction 1 0\njunction 2\nbridge\njunction 1 0")), [0, 2, 2, 0])

    def test_word_place_is_counted_in_words_not_in_blanks(self):
        self.fault("   junction    3     x  ", 3, 3)


class TestCutting(unittest.TestCase):
    def test_blanks_in_front_behind_and_between(self):
        plain = lines("junction 1 5", "junction 2 6", "road 3 1 2 700 1", "speed 4 1 2 3 4", "closed 3 8 9")
        wide = "  " + plain.replace(" ", "    ").replace("\n", "  \n ")
        self.assertEqual(last(read(wide)), [0, 0, 2, 1])
        self.assertEqual(written(read(wide)), plain)

    def test_text_without_a_line_end_behind(self):
        self.assertEqual(written(read("junction 1 5")), "junction 1 5\n")

    def test_texts_that_say_nothing(self):
        for text in ("", "\n", "\n\n\n", " ", "   \n \n", "rem", "rem\n", " rem anything 1 2 3", "rem junction 1 0",
                     "rem rem rem rem rem rem rem rem"):
            with self.subTest(text=text):
                self.assertEqual(ask(read(text), write()), [[0, 0, 0, 0], [0]])

    def test_only_blanks_cut_words_and_only_line_ends_cut_lines(self):
        self.assertEqual(last(read("junction 1 5\rjunction 2 5")), [0, 2, 1, 0])
        self.assertEqual(last(read("junction 1 5\r\n")), [0, 3, 1, 3])
        self.assertEqual(last(read("junction 1\t5")), [0, 2, 1, 0])

    def test_longest_text(self):
        text = "junction 1 5\n" + "rem " + "x" * 1983
        self.assertEqual(len(text), 2000)
        self.assertEqual(ask(read(text), write())[0], [0, 0, 1, 0])
        self.assertEqual(last(read("\n" * 1999 + "x")), [0, 1, 2000, 1])
        self.assertEqual(last(read(" " * 2000)), [0, 0, 0, 0])


class TestNumbers(unittest.TestCase):
    def height(self, word):
        """The height as it's written again, or the fault."""
        answers = ask(read("junction 1 " + word), write())
        if answers[0] == [0, 0, 1, 0]:
            return bytes(answers[1][1:]).decode()
        return answers[0]

    def test_seven_and_eight_digits(self):
        self.assertEqual(self.height("1000000"), "junction 1 1000000\n")
        self.assertEqual(self.height("999999"), "junction 1 999999\n")
        for word in ("1000001", "9999999", "10000000", "00000005", "0999999", "0000005", "1" * 30):
            with self.subTest(word=word):
                self.assertEqual(self.height(word), [0, 3, 1, 3])

    def test_zeros(self):
        self.assertEqual(self.height("0"), "junction 1 0\n")
        self.assertEqual(self.height("10"), "junction 1 10\n")
        for word in ("00", "01", "0000000"):
            with self.subTest(word=word):
                self.assertEqual(self.height(word), [0, 3, 1, 3])

    def test_signs_around_the_digits(self):
        for word in ("1/", "1:", "/", ":", "-0", "+1", "1.0", "1e3", "1_0", "0x1"):
            with self.subTest(word=word):
                self.assertEqual(self.height(word), [0, 3, 1, 3])
        self.assertEqual(self.height("123456"), "junction 1 123456\n")
        self.assertEqual(self.height("987"), "junction 1 987\n")

    def test_digits_of_other_scripts_are_none(self):
        self.assertEqual(last(read(list(b"junction 1 ") + [178])), [0, 3, 1, 3])
        self.assertEqual(last(read(list(b"junction 1 ") + list("\u0663".encode()))), [0, 3, 1, 3])


class TestTakenOrNot(unittest.TestCase):
    def test_a_later_fault_takes_nothing(self):
        text = lines("junction 3 5", "road 8 1 3 50 1", "speed 200 1 1 1 1", "closed 8 1 2", "closed 8 2 2")
        told = ask(read(BASE), read(text), write(), undo(), undo())
        self.assertEqual(told[1], [0, 6, 5, 4])
        self.assertEqual(bytes(told[2][1:]).decode(), BASE)
        # It was no change either.
        self.assertEqual(told[3:], [[0], [-4]])

    def test_read_again_after_a_fault(self):
        told = ask(read("junction 1 0\nx"), read("junction 1 0"))
        self.assertEqual(told, [[0, 1, 2, 1], [0, 0, 1, 0]])

    def test_texts_are_read_behind_one_another(self):
        told = ask(read("junction 9 4"), read("junction 2 5\nroad 1 9 2 10 2"), read("junction 1 0"), write())
        self.assertEqual(told[:3], [[0, 0, 1, 0], [0, 0, 2, 1], [0, 0, 3, 1]])
        self.assertEqual(bytes(told[3][1:]).decode(),
                         lines("junction 9 4", "junction 2 5", "junction 1 0", "road 1 9 2 10 2"))

    def test_look_answers_as_read_and_changes_nothing(self):
        told = ask(look(BASE), look(BASE), write(), undo(), read(BASE), look("junction 3 0"), look("junction 3 0"),
                   look("junction 1 0"), write(), undo(), undo())
        self.assertEqual(told[:4], [[0, 0, 2, 1], [0, 0, 2, 1], [0], [-4]])
        self.assertEqual(told[5:8], [[0, 0, 3, 1], [0, 0, 3, 1], [0, 5, 1, 2]])
        self.assertEqual(bytes(told[8][1:]).decode(), BASE)
        self.assertEqual(told[9:], [[0], [-4]])


class TestWrite(unittest.TestCase):
    def test_empty_net(self):
        self.assertEqual(ask(write()), [[0]])

    def test_kinds_in_order_each_as_told(self):
        mixed = lines(
            "rem a mine", "speed 10 1 2 3 4", "junction 5 100", "junction 2 0", "road 9 5 2 30 1", "closed 9 4 5",
            "", "speed 20 5 6 7 8", "road 3 2 5 40 2", "closed 3 1 2", "junction 1 7", "closed 9 0 1",
        )
        self.assertEqual(written(read(mixed)), lines(
            "junction 5 100", "junction 2 0", "junction 1 7", "road 9 5 2 30 1", "road 3 2 5 40 2",
            "speed 10 1 2 3 4", "speed 20 5 6 7 8", "closed 9 4 5", "closed 3 1 2", "closed 9 0 1",
        ))

    def test_answer_is_bytes_behind_a_0(self):
        self.assertEqual(last(read("junction 1 0"), write()), [0] + list(b"junction 1 0\n"))


if __name__ == "__main__":
    unittest.main()
