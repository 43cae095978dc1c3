"""The calls that ask and change nothing. Each gives back the numbers it answers."""

from clocktimes.refusals import OUT_OF_RANGE, WRONG_LENGTH
from clocktimes.rules import hold_slack, missed_rules, setup_slack
from clocktimes.state import is_period


def list_all(board):
    told = [board.setup, board.hold, len(board.chips)]
    for chip in board.chips:
        told.extend([chip.lo, chip.hi])
    told.append(len(board.paths))
    for path in board.paths:
        told.extend([path.i, path.j, path.d, path.e])
    return told


def refusal_of(board, period, times):
    if not is_period(period):
        return [OUT_OF_RANGE]
    if len(times) != len(board.chips):
        return [WRONG_LENGTH]
    return []


def check(board, period, times):
    refusal = refusal_of(board, period, times)
    if refusal != []:
        return refusal
    missed = missed_rules(board, period, times)
    told = [len(missed)]
    for rule in missed:
        told.extend([rule[0], rule[1]])
    return told


def slacks(board, period, times):
    refusal = refusal_of(board, period, times)
    if refusal != []:
        return refusal
    told = [2 * len(board.paths)]
    for path in board.paths:
        told.append(setup_slack(board, path, period, times))
        told.append(hold_slack(board, path, times))
    return told
