"""The rules that a row of times must keep. A rule is told as its kind and its chip's or path's number."""

KIND_HI = 0
KIND_LO = 1
KIND_SETUP = 2
KIND_HOLD = 3


def setup_slack(board, path, period, times):
    return times[path.j] + period - (times[path.i] + path.e + board.setup)


def hold_slack(board, path, times):
    return times[path.i] + path.d - (times[path.j] + board.hold)


def missed_rules(board, period, times):
    missed = []
    for number, chip in enumerate(board.chips):
        if times[number] > chip.hi:
            missed.append((KIND_HI, number))
        if times[number] < chip.lo:
            missed.append((KIND_LO, number))
    for number, path in enumerate(board.paths):
        if setup_slack(board, path, period, times) < 0:
            missed.append((KIND_SETUP, number))
        if hold_slack(board, path, times) < 0:
            missed.append((KIND_HOLD, number))
    return missed
