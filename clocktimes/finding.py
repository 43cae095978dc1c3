"""The calls that find out about all right rows of a period, and about the periods and margins that allow one.

Each gives back the numbers it answers and changes nothing.
"""

from clocktimes.refusals import NO_CHIP, NO_PERIOD, NO_ROW, OUT_OF_RANGE
from clocktimes.rings import least_ring
from clocktimes.rules import rules_of, told_rules, zero_of
from clocktimes.state import GREATEST_PERIOD, has_chip, is_margin, is_period
from clocktimes.walks import least_sums, turned


def some_row_is_right(board, period, growth):
    zero = zero_of(board)
    return least_sums(rules_of(board, period, growth), zero, zero) is not None


def feasible(board, period):
    if not is_period(period):
        return [OUT_OF_RANGE]
    return [1 if some_row_is_right(board, period, 0) else 0]


# A chip's time is at least 0 less the least sum from it to the zero: the rules are turned to walk from the zero.
def early(board, period):
    if not is_period(period):
        return [OUT_OF_RANGE]
    zero = zero_of(board)
    sums = least_sums(turned(rules_of(board, period, 0)), zero, zero)
    if sums is None:
        return [NO_ROW]
    return [zero] + [-total for total in sums[:zero]]


def late(board, period):
    if not is_period(period):
        return [OUT_OF_RANGE]
    zero = zero_of(board)
    sums = least_sums(rules_of(board, period, 0), zero, zero)
    if sums is None:
        return [NO_ROW]
    return [zero] + sums[:zero]


def apart(board, period, i, j):
    if not is_period(period):
        return [OUT_OF_RANGE]
    if not (has_chip(board, i) and has_chip(board, j)):
        return [NO_CHIP]
    rules = rules_of(board, period, 0)
    from_i = least_sums(rules, zero_of(board), i)
    from_j = least_sums(rules, zero_of(board), j)
    if from_i is None or from_j is None:
        return [NO_ROW]
    return [-from_j[i], from_i[j]]


def ring(board, period):
    if not is_period(period):
        return [OUT_OF_RANGE]
    found = least_ring(rules_of(board, period, 0), zero_of(board))
    return told_rules(found) + [sum([rule.bound for rule in found])]


# At the greatest period all times within bounds keep every setup rule, so no greater one could do better.
def least(board):
    if not some_row_is_right(board, GREATEST_PERIOD, 0):
        return [NO_PERIOD]
    low = 0
    high = GREATEST_PERIOD
    while low < high:
        middle = (low + high) // 2
        if some_row_is_right(board, middle, 0):
            high = middle
        else:
            low = middle + 1
    return [low]


def reserve(board, period, most):
    if not (is_period(period) and is_margin(most)):
        return [OUT_OF_RANGE]
    if not some_row_is_right(board, period, 0):
        return [NO_ROW]
    low = 0
    high = most
    while low < high:
        middle = (low + high + 1) // 2
        if some_row_is_right(board, period, middle):
            low = middle
        else:
            high = middle - 1
    return [low]
