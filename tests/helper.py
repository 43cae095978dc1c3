"""Writes calls as the interface does, and takes its answers apart."""

from clocktimes.board import answers

LEAST_INT = -2147483648
GREATEST_INT = 2147483647


def margins(setup, hold):
    return [0, setup, hold]


def chip(lo, hi):
    return [1, lo, hi]


def path(i, j, d, e):
    return [2, i, j, d, e]


def bound(number, lo, hi):
    return [3, number, lo, hi]


def delay(number, d, e):
    return [4, number, d, e]


def away(number):
    return [5, number]


def clear():
    return [6]


def list_all():
    return [7]


def check(period, times):
    return [8, period, len(times)] + times


def slacks(period, times):
    return [9, period, len(times)] + times


def joined(calls):
    return [number for call in calls for number in call]


def parted(told):
    """The answers call by call, from the counts that stand ahead of them."""
    parts = []
    place = 0
    while place < len(told):
        count = told[place]
        part = told[place + 1:place + 1 + count]
        if count < 1 or len(part) != count:
            raise ValueError(f"no whole answer at {place} of {told}")
        parts.append(part)
        place += 1 + count
    return parts


def run(*calls):
    parts = parted(answers(joined(calls)))
    if len(parts) != len(calls):
        raise ValueError(f"{len(calls)} calls, {len(parts)} answers")
    return parts


def last(*calls):
    return run(*calls)[-1]
