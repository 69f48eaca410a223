"""Net: what there is, number by number."""

import unittest

from tests.helper import ask, close, free, last, lines, look, net, read, text_of, undo, write

TEXT = lines("junction 5 100", "junction 2 0", "road 9 5 2 30 1", "road 3 2 5 40 2", "speed 10 1 2 3 4",
             "speed 20 5 6 7 8", "closed 9 4 5", "closed 3 1 2", "closed 9 0 1")
NUMBERS = [0, 2, 5, 100, 2, 0, 2, 9, 5, 2, 30, 1, 3, 2, 5, 40, 2, 2, 10, 1, 2, 3, 4, 20, 5, 6, 7, 8,
           3, 9, 4, 5, 3, 1, 2, 9, 0, 1]


def numbers_of(text):
    """What net must tell of a net's text."""
    told = [0]
    for word in ("junction", "road", "speed", "closed"):
        rows = [line.split()[1:] for line in text.split("\n") if line.startswith(word)]
        told += [len(rows)] + [int(number) for row in rows for number in row]
    return told


class TestNet(unittest.TestCase):
    def test_without_anything(self):
        self.assertEqual(ask(net()), [[0, 0, 0, 0, 0]])

    def test_number_by_number(self):
        self.assertEqual(last(read(TEXT), net()), NUMBERS)

    def test_one_kind_alone(self):
        self.assertEqual(last(read("junction 1 1000000"), net()), [0, 1, 1, 1000000, 0, 0, 0])
        self.assertEqual(last(read("speed 0 0 0 0 1000"), net()), [0, 0, 0, 1, 0, 0, 0, 0, 1000, 0])

    def test_told_in_mixed_order(self):
        text = lines("speed 1 1 1 1 1", "junction 9 0", "junction 1 0", "road 7 9 1 5 1", "closed 7 1 2",
                     "junction 4 4", "road 2 4 1 6 2")
        self.assertEqual(last(read(text), net()),
                         [0, 3, 9, 0, 1, 0, 4, 4, 2, 7, 9, 1, 5, 1, 2, 4, 1, 6, 2, 1, 1, 1, 1, 1, 1, 1, 7, 1, 2])

    def test_after_each_change_it_tells_what_write_tells(self):
        changes = [read(TEXT), close(3, 7, 100000), read("junction 1 1\nroad 1 1 2 1 1\nclosed 1 0 1"),
                   look("junction 8 1"), read("x"), free(9), free(9), undo(), undo(), close(9, 5, 5), undo(), undo(),
                   undo(), undo()]
        calls = [call for change in changes for call in (change, write(), net())]
        told = ask(*calls)
        seen = set()
        for place in range(len(changes)):
            text = text_of(told[3 * place + 1])
            with self.subTest(place=place):
                self.assertEqual(told[3 * place + 2], numbers_of(text))
            seen.add(text)
        self.assertEqual(len(seen), 5)
        self.assertEqual(told[-1], [0, 0, 0, 0, 0])

    def test_the_greatest_net(self):
        text = lines(*[f"junction {n} {n * 1000}" for n in range(90, 100)],
                     *[f"road {n} {90 + n % 10} {90 + (n + 1) % 10} {n * 10000} {1 + n % 2}" for n in range(80, 100)],
                     *[f"speed {n} {n} 0 {n} 0" for n in range(0, 600, 100)],
                     *[f"closed {80 + n} {n * 1000} {n * 1000 + 1}" for n in range(20)])
        told = last(read(text), net())
        self.assertEqual(told, numbers_of(text))
        self.assertEqual(len(told), 1 + 1 + 20 + 1 + 100 + 1 + 30 + 1 + 60)

    def test_written_and_read_again_it_is_the_same(self):
        written = last(read(TEXT), write())[1:]
        self.assertEqual(last(read(written), net()), NUMBERS)

    def test_no_change(self):
        self.assertEqual(ask(net(), undo(), read(TEXT), net(), undo(), undo())[1:],
                         [[-4], [0, 0, 2, 2], NUMBERS, [0], [-4]])


if __name__ == "__main__":
    unittest.main()
