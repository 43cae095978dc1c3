"""The rules that a row of times must keep.

A rule is told as its kind and its chip's or path's number. It says that the time of its end less the time of its
beginning is at most its bound. Both are places: a chip's place is its number, the zero's place is the one behind
the last chip.
"""

KIND_HI = 0
KIND_LO = 1
KIND_SETUP = 2
KIND_HOLD = 3


class Rule:
    def __init__(self, kind, number, begin, end, bound):
        self.kind = kind
        self.number = number
        self.begin = begin
        self.end = end
        self.bound = bound


def zero_of(board):
    return len(board.chips)


def chip_rules(board):
    zero = zero_of(board)
    rules = []
    for number, chip in enumerate(board.chips):
        rules.append(Rule(KIND_HI, number, zero, number, chip.hi))
        rules.append(Rule(KIND_LO, number, number, zero, -chip.lo))
    return rules


# The growth is a parameter, so that reserve can try greater margins without changing the board's own.
def path_rules(board, period, growth):
    setup = board.setup + growth
    hold = board.hold + growth
    rules = []
    for number, path in enumerate(board.paths):
        rules.append(Rule(KIND_SETUP, number, path.j, path.i, period - setup - path.e))
        rules.append(Rule(KIND_HOLD, number, path.i, path.j, path.d - hold))
    return rules


def rules_of(board, period, growth):
    return chip_rules(board) + path_rules(board, period, growth)


# How much is left of each rule; the zero's time is put behind the row, where its place is.
def what_is_left(rules, row):
    times = row + [0]
    return [rule.bound - (times[rule.end] - times[rule.begin]) for rule in rules]


def missed_rules(rules, row):
    return [rule for rule, left in zip(rules, what_is_left(rules, row)) if left < 0]


def told_rules(rules):
    told = [len(rules)]
    for rule in rules:
        told.extend([rule.kind, rule.number])
    return told
