"""The program's one function: the answers to a list of calls on one new object."""

from mineroads.answering import answer_all

# How many plain numbers a call has, and whether a row with its count stands behind them.
SHAPES = {
    0: (0, True),
    1: (0, True),
    2: (0, False),
    3: (0, False),
    4: (3, False),
    5: (1, False),
    6: (2, False),
    7: (3, False),
    8: (4, False),
    9: (3, True),
    10: (3, True),
    11: (4, False),
    12: (2, False),
    13: (4, False),
    14: (4, False),
    15: (4, True),
    16: (4, False),
    17: (0, False),
}


def cut_into_calls(calls):
    """Each call's number and what is given with it: its plain numbers, and its row's behind them."""
    found = []
    place = 0
    while place < len(calls):
        number = calls[place]
        shape = SHAPES[number]
        behind = place + 1 + shape[0]
        given = calls[place + 1:behind]
        place = behind
        if shape[1]:
            place = behind + 1 + calls[behind]
            given.extend(calls[behind + 1:place])
        found.append((number, given))
    return found


def answers(calls):
    told = []
    for answer in answer_all(cut_into_calls(calls)):
        told.append(len(answer))
        told.extend(answer)
    return told
