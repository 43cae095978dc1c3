"""The calls that change a board.

Each gives back the numbers it answers. The refusals stand ahead of the first change, so that a refused call
leaves the board as it was.
"""

from clocktimes.refusals import FULL, NO_CHIP, NO_PATH, OUT_OF_RANGE
from clocktimes.state import MOST_CHIPS, MOST_PATHS, Chip, Path
from clocktimes.state import are_bounds, are_delays, has_chip, has_path, is_margin


def set_margins(board, setup, hold):
    if not (is_margin(setup) and is_margin(hold)):
        return [OUT_OF_RANGE]
    board.setup = setup
    board.hold = hold
    return [0]


def add_chip(board, lo, hi):
    if not are_bounds(lo, hi):
        return [OUT_OF_RANGE]
    if len(board.chips) == MOST_CHIPS:
        return [FULL]
    board.chips.append(Chip(lo, hi))
    return [len(board.chips) - 1]


def add_path(board, i, j, d, e):
    if not (has_chip(board, i) and has_chip(board, j)):
        return [NO_CHIP]
    if not are_delays(d, e):
        return [OUT_OF_RANGE]
    if len(board.paths) == MOST_PATHS:
        return [FULL]
    board.paths.append(Path(i, j, d, e))
    return [len(board.paths) - 1]


def set_bounds(board, number, lo, hi):
    if not has_chip(board, number):
        return [NO_CHIP]
    if not are_bounds(lo, hi):
        return [OUT_OF_RANGE]
    board.chips[number] = Chip(lo, hi)
    return [0]


def set_delays(board, number, d, e):
    if not has_path(board, number):
        return [NO_PATH]
    if not are_delays(d, e):
        return [OUT_OF_RANGE]
    path = board.paths[number]
    board.paths[number] = Path(path.i, path.j, d, e)
    return [0]


def take_away(board, number):
    if not has_path(board, number):
        return [NO_PATH]
    board.paths.pop(number)
    return [0]


def clear_all(board):
    board.setup = 0
    board.hold = 0
    board.chips = []
    board.paths = []
    return [0]


def shift(board, c):
    shifted = [Chip(chip.lo + c, chip.hi + c) for chip in board.chips]
    if not all([are_bounds(chip.lo, chip.hi) for chip in shifted]):
        return [OUT_OF_RANGE]
    board.chips = shifted
    return [0]
