"""Writes calls as the interface does, takes its answers apart, and reckons slowly and plainly on drawn boards."""

import itertools
import random

from clocktimes.board import answers

LEAST_INT = -2147483648
GREATEST_INT = 2147483647
TOP = 100000000
LONGEST = 2000000000


def margins(setup, hold):
    return [0, setup, hold]


def chip(lo, hi):
    return [1, lo, hi]


def path(i, j, d, e):
    return [2, i, j, d, e]


def bound(number, lo, hi):
    return [3, number, lo, hi]


def delay(number, d, e):
    return [4, number, d, e]


def away(number):
    return [5, number]


def clear():
    return [6]


def list_all():
    return [7]


def check(period, times):
    return [8, period, len(times)] + times


def slacks(period, times):
    return [9, period, len(times)] + times


def feasible(period):
    return [10, period]


def early(period):
    return [11, period]


def late(period):
    return [12, period]


def apart(period, i, j):
    return [13, period, i, j]


def ring(period):
    return [14, period]


def least():
    return [15]


def reserve(period, most):
    return [16, period, most]


def sooner(one, other):
    return [17, len(one)] + one + [len(other)] + other


def later(one, other):
    return [18, len(one)] + one + [len(other)] + other


def shift(c):
    return [19, c]


def joined(calls):
    return [number for call in calls for number in call]


def parted(told):
    """The answers call by call, from the counts that stand ahead of them."""
    parts = []
    place = 0
    while place < len(told):
        count = told[place]
        part = told[place + 1:place + 1 + count]
        if count < 1 or len(part) != count:
            raise ValueError(f"no whole answer at {place} of {told}")
        parts.append(part)
        place += 1 + count
    return parts


def run(*calls):
    parts = parted(answers(joined(calls)))
    if len(parts) != len(calls):
        raise ValueError(f"{len(calls)} calls, {len(parts)} answers")
    return parts


def last(*calls):
    return run(*calls)[-1]


class Plain:
    """A board as plain lists, with what the document's words say of it, gone through row by row."""

    def __init__(self, setup, hold, chips, paths):
        self.setup = setup
        self.hold = hold
        self.chips = chips
        self.paths = paths

    def calls(self):
        return [margins(self.setup, self.hold)] + [chip(*each) for each in self.chips] \
            + [path(*each) for each in self.paths]

    def grown(self, growth):
        return Plain(self.setup + growth, self.hold + growth, self.chips, self.paths)

    def ask(self, *calls):
        return run(*self.calls(), *calls)[-len(calls):]

    def missed(self, period, row):
        """The rules that the row doesn't keep, each as its kind and number."""
        missed = []
        for k, (lo, hi) in enumerate(self.chips):
            missed += [] if row[k] <= hi else [(0, k)]
            missed += [] if row[k] >= lo else [(1, k)]
        for k, (i, j, d, e) in enumerate(self.paths):
            missed += [] if row[i] + e + self.setup <= row[j] + period else [(2, k)]
            missed += [] if row[i] + d >= row[j] + self.hold else [(3, k)]
        return missed

    def rows(self):
        return [list(row) for row in itertools.product(*[range(lo, hi + 1) for lo, hi in self.chips])]

    def right_rows(self, period):
        return [row for row in self.rows() if self.missed(period, row) == []]

    def rules(self, period):
        """Each rule as its kind, its number, its beginning, its end and its bound."""
        rules = []
        for k, (lo, hi) in enumerate(self.chips):
            rules += [(0, k, "zero", k, hi), (1, k, k, "zero", 0 - lo)]
        for k, (i, j, d, e) in enumerate(self.paths):
            rules += [(2, k, j, i, period - self.setup - e), (3, k, i, j, d - self.hold)]
        return rules

    def __repr__(self):
        return f"Plain({self.setup}, {self.hold}, {self.chips}, {self.paths})"


def drawn_paths(draw, chips, most):
    paths = []
    for k in range(draw.randint(0, most) if chips else 0):
        i, j = draw.randrange(chips), draw.randrange(chips)
        if i == j and draw.randrange(4):
            j = (i + 1) % chips
        d = draw.randint(0, 5)
        paths.append((i, j, d, d + draw.randint(0, 4)))
    return paths


def drawn_boards(how_many, seed):
    """Boards small enough to go through all their rows, each with a period."""
    draw = random.Random(seed)
    boards = []
    for k in range(how_many):
        chips = []
        for each in range(draw.choice((0, 1, 2, 2, 3, 3, 3, 3))):
            lo = draw.randint(-4, 3)
            chips.append((lo, lo + draw.randint(0, 4)))
        plain = Plain(draw.randint(0, 3), draw.randint(0, 2), chips, drawn_paths(draw, len(chips), 5))
        boards.append((plain, draw.randint(0, 12)))
    return boards


def drawn_full_board(draw, scale, tight):
    """16 chips with 48 paths, for periods about 3 times the scale; tight is from 0 (most rows are right) to 10."""
    chips = []
    for k in range(16):
        middle = draw.randint(-scale, scale)
        chips.append((middle - draw.randint(0, scale), middle + draw.randint(0, scale)))
    paths = []
    for k in range(48):
        d = draw.randint(0, scale) + scale * (10 - tight) // 10
        paths.append((draw.randrange(16), draw.randrange(16), d, d + draw.randint(0, scale * tight // 10)))
    return Plain(draw.randint(0, scale * tight // 20), draw.randint(0, scale * tight // 20), chips, paths)
