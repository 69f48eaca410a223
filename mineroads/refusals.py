"""The number that a call answers first, and the ranges that its arguments and rows must keep to."""

DONE = 0
OUTSIDE = -1
NO_JUNCTION = -2
NO_ROAD = -3
NOTHING_BEFORE = -4
ENDS_TOO_SOON = -5
TOO_MANY_CLOSINGS = -6
NO_WAY = -7
WRONG_COUNT = -8
NO_CELL = -9

LAST_MINUTE = 100000
LONGEST_STAY = 1000
MOST_NX = 8
LAST_CELL = 63
GREATEST_MEMBER = 1000000

MOST_SIGNS = 2000
MOST_TRIP_NUMBERS = 60
MOST_TABLE_NUMBERS = 20
MOST_HEIGHTS = 64


def is_name(number):
    return 1 <= number <= 99


def is_minute(number):
    return 0 <= number <= LAST_MINUTE


def is_load(number):
    return 0 <= number <= 1


def is_way(number):
    return 0 <= number <= 1


def is_stay(number):
    return 0 <= number <= LONGEST_STAY


def is_nx(number):
    return 1 <= number <= MOST_NX


def is_cell(number):
    return 0 <= number <= LAST_CELL


def is_member(number):
    return 0 <= number <= GREATEST_MEMBER


def is_row(row, most):
    return len(row) <= most and all([is_member(number) for number in row])


def is_text(row):
    return len(row) <= MOST_SIGNS and all([0 <= number <= 255 for number in row])
