"""Calls written as the document names them, and the answers one list a call."""

from mineroads.roads import answers


def signs(text):
    """A text's bytes, from a Python text or bytes, or a list of numbers as it is."""
    if isinstance(text, str):
        return list(text.encode("ascii"))
    return list(text)


def read(text):
    return [0, len(signs(text))] + signs(text)


def look(text):
    return [1, len(signs(text))] + signs(text)


def write():
    return [2]


def undo():
    return [3]


def close(n, lo, hi):
    return [4, n, lo, hi]


def free(n):
    return [5, n]


def road(n, l):
    return [6, n, l]


def times(a, t, l):
    return [7, a, t, l]


def route(a, b, t, l):
    return [8, a, b, t, l]


def flat(calls):
    return [number for call in calls for number in call]


def cut_answers(told):
    """The answers, one list each; a count that doesn't fit is an error."""
    found = []
    place = 0
    while place < len(told):
        count = told[place]
        answer = told[place + 1:place + 1 + count]
        if count < 1 or len(answer) != count:
            raise ValueError(f"no answer of {count} numbers at {place}")
        found.append(answer)
        place += 1 + count
    return found


def ask(*calls):
    """Each call's answer, the calls made in order on one new object."""
    return cut_answers(answers(flat(calls)))


def last(*calls):
    """The last call's answer."""
    return ask(*calls)[-1]


def text_of(answer):
    """The text that a write answered."""
    if answer[0] != 0:
        raise ValueError("refused")
    return bytes(answer[1:]).decode("ascii")


def written(*calls):
    """The net's text after these calls."""
    return text_of(last(*calls, write()))


def lines(*rows):
    return "".join(row + "\n" for row in rows)
