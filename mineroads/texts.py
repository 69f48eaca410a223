"""Texts as rows of bytes: lines, words and numbers in them, and a net as text."""

LINE_END = 10
BLANK = 32
DIGIT_0 = 48
DIGIT_9 = 57
MOST_DIGITS = 7
NO_NUMBER = -1


def signs_of(words):
    return [ord(sign) for sign in words]


def cut_at(row, mark):
    parts = [[]]
    for sign in row:
        if sign == mark:
            parts.append([])
        else:
            parts[-1].append(sign)
    return parts


def lines_of(text):
    return cut_at(text, LINE_END)


def words_of(line):
    return [word for word in cut_at(line, BLANK) if len(word) > 0]


def number_of(word):
    """The number that a word is, or NO_NUMBER."""
    if len(word) > MOST_DIGITS:
        return NO_NUMBER
    if len(word) > 1 and word[0] == DIGIT_0:
        return NO_NUMBER
    number = 0
    for sign in word:
        if sign < DIGIT_0 or sign > DIGIT_9:
            return NO_NUMBER
        number = number * 10 + sign - DIGIT_0
    return number


def written_line(name, row):
    return " ".join([name] + [str(number) for number in row]) + "\n"


def written_net(net):
    lines = [written_line("junction", junction.row()) for junction in net.junctions]
    lines.extend([written_line("road", road.row()) for road in net.roads])
    lines.extend([written_line("speed", speed.row()) for speed in net.speeds])
    lines.extend([written_line("closed", closing.row()) for closing in net.closings])
    return signs_of("".join(lines))
