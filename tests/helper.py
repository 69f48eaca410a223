"""Calls written as the document names them, and the answers one list a call."""

from mineroads.roads import answers


def signs(text):
    """A text's bytes, from a Python text or bytes, or a list of numbers as it is."""
    if isinstance(text, str):
        return list(text.encode("ascii"))
    return list(text)


def read(text):
    return [0, len(signs(text))] + signs(text)


def look(text):
    return [1, len(signs(text))] + signs(text)


def write():
    return [2]


def undo():
    return [3]


def close(n, lo, hi):
    return [4, n, lo, hi]


def free(n):
    return [5, n]


def road(n, l):
    return [6, n, l]


def times(a, t, l):
    return [7, a, t, l]


def route(a, b, t, l):
    return [8, a, b, t, l]


def check(a, t, l, numbers):
    return [9, a, t, l, len(numbers)] + list(numbers)


def table(a, t, l, numbers):
    return [10, a, t, l, len(numbers)] + list(numbers)


def without(n, a, t, l):
    return [11, n, a, t, l]


def needed(a, l):
    return [12, a, l]


def round_trip(a, b, t, stay):
    return [13, a, b, t, stay]


def within(a, t, m, l):
    return [14, a, t, m, l]


def ramp(nx, m, first, second, heights):
    return [15, nx, m, first, second, len(heights)] + list(heights)


def begins(n, t, l, w):
    return [16, n, t, l, w]


def net():
    return [17]


def flat(calls):
    return [number for call in calls for number in call]


def cut_answers(told):
    """The answers, one list each; a count that doesn't fit is an error."""
    found = []
    place = 0
    while place < len(told):
        count = told[place]
        answer = told[place + 1:place + 1 + count]
        if count < 1 or len(answer) != count:
            raise ValueError(f"no answer of {count} numbers at {place}")
        found.append(answer)
        place += 1 + count
    return found


def ask(*calls):
    """Each call's answer, the calls made in order on one new object."""
    return cut_answers(answers(flat(calls)))


def last(*calls):
    """The last call's answer."""
    return ask(*calls)[-1]


def text_of(answer):
    """The text that a write answered."""
    if answer[0] != 0:
        raise ValueError("refused")
    return bytes(answer[1:]).decode("ascii")


def written(*calls):
    """The net's text after these calls."""
    return text_of(last(*calls, write()))


def lines(*rows):
    return "".join(row + "\n" for row in rows)


# Every road of such a net is level and gone at 10 metres a minute: its minutes are its length by 1000.
LEVEL_SPEED = "speed 0 10 10 10 10"


def level_net(junctions, roads, closings=()):
    return lines(*[f"junction {number} 0" for number in junctions], *[f"road {row}" for row in roads], LEVEL_SPEED,
                 *[f"closed {row}" for row in closings])
