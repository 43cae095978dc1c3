"""What a board keeps between calls, and which numbers may be kept there."""

MOST_CHIPS = 16
MOST_PATHS = 48
GREATEST_TIME = 100000000
GREATEST_PERIOD = 2000000000


# Its clock comes at a time from lo to hi.
class Chip:
    def __init__(self, lo, hi):
        self.lo = lo
        self.hi = hi


# From chip i to chip j, with the least delay d and the greatest delay e.
class Path:
    def __init__(self, i, j, d, e):
        self.i = i
        self.j = j
        self.d = d
        self.e = e


# A chip's or path's number is its place in its list.
class Board:
    def __init__(self):
        self.setup = 0
        self.hold = 0
        self.chips = []
        self.paths = []


def has_chip(board, number):
    return 0 <= number < len(board.chips)


def has_path(board, number):
    return 0 <= number < len(board.paths)


def fits(board, times):
    return len(times) == len(board.chips)


def is_margin(number):
    return 0 <= number <= GREATEST_TIME


def is_period(number):
    return 0 <= number <= GREATEST_PERIOD


def are_bounds(lo, hi):
    return -GREATEST_TIME <= lo <= hi <= GREATEST_TIME


def are_delays(d, e):
    return 0 <= d <= e <= GREATEST_TIME
