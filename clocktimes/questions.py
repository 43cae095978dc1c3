"""The calls that list the board or look at rows of times. Each gives back its answer and changes nothing."""

from clocktimes.refusals import OUT_OF_RANGE, WRONG_LENGTH
from clocktimes.rules import missed_rules, path_rules, rules_of, told_rules, what_is_left
from clocktimes.state import fits, is_period


def list_all(board):
    told = [board.setup, board.hold, len(board.chips)]
    for chip in board.chips:
        told.extend([chip.lo, chip.hi])
    told.append(len(board.paths))
    for path in board.paths:
        told.extend([path.i, path.j, path.d, path.e])
    return told


def refusal_of(board, period, times):
    if not is_period(period):
        return [OUT_OF_RANGE]
    if not fits(board, times):
        return [WRONG_LENGTH]
    return []


def check(board, period, times):
    refusal = refusal_of(board, period, times)
    if refusal != []:
        return refusal
    return told_rules(missed_rules(rules_of(board, period, 0), times))


def slacks(board, period, times):
    refusal = refusal_of(board, period, times)
    if refusal != []:
        return refusal
    left = what_is_left(path_rules(board, period, 0), times)
    return [len(left)] + left


def sooner(board, one, other):
    if not (fits(board, one) and fits(board, other)):
        return [WRONG_LENGTH]
    return [len(one)] + [min(first, second) for first, second in zip(one, other)]


def later(board, one, other):
    if not (fits(board, one) and fits(board, other)):
        return [WRONG_LENGTH]
    return [len(one)] + [max(first, second) for first, second in zip(one, other)]
