"""Answers the calls on one new board.

A further call needs its number, its place in HOW_MANY_NUMBERS and HOW_MANY_ROWS, and a branch in change, look_at,
find or compare.
"""

from clocktimes.changes import add_chip, add_path, clear_all, set_bounds, set_delays, set_margins, shift, take_away
from clocktimes.finding import apart, early, feasible, late, least, reserve, ring
from clocktimes.questions import check, later, list_all, slacks, sooner
from clocktimes.reader import Reader
from clocktimes.state import Board

MARGINS = 0
CHIP = 1
PATH = 2
BOUND = 3
DELAY = 4
AWAY = 5
CLEAR = 6
LIST = 7
CHECK = 8
SLACKS = 9
FEASIBLE = 10
EARLY = 11
LATE = 12
APART = 13
RING = 14
LEAST = 15
RESERVE = 16
SOONER = 17
LATER = 18
SHIFT = 19

# By the calls' numbers: how many whole numbers, then how many rows, stand behind a call's number.
HOW_MANY_NUMBERS = (2, 2, 4, 3, 3, 1, 0, 0, 1, 1, 1, 1, 1, 3, 1, 0, 2, 0, 0, 1)
HOW_MANY_ROWS = (0, 0, 0, 0, 0, 0, 0, 0, 1, 1, 0, 0, 0, 0, 0, 0, 0, 2, 2, 0)


def change(board, call, numbers):
    if call == MARGINS:
        return set_margins(board, numbers[0], numbers[1])
    if call == CHIP:
        return add_chip(board, numbers[0], numbers[1])
    if call == PATH:
        return add_path(board, numbers[0], numbers[1], numbers[2], numbers[3])
    if call == BOUND:
        return set_bounds(board, numbers[0], numbers[1], numbers[2])
    if call == DELAY:
        return set_delays(board, numbers[0], numbers[1], numbers[2])
    if call == AWAY:
        return take_away(board, numbers[0])
    if call == SHIFT:
        return shift(board, numbers[0])
    return clear_all(board)


def look_at(board, call, numbers, rows):
    if call == LIST:
        return list_all(board)
    if call == CHECK:
        return check(board, numbers[0], rows[0])
    return slacks(board, numbers[0], rows[0])


def find(board, call, numbers):
    if call == FEASIBLE:
        return feasible(board, numbers[0])
    if call == EARLY:
        return early(board, numbers[0])
    if call == LATE:
        return late(board, numbers[0])
    if call == APART:
        return apart(board, numbers[0], numbers[1], numbers[2])
    if call == RING:
        return ring(board, numbers[0])
    if call == LEAST:
        return least(board)
    return reserve(board, numbers[0], numbers[1])


def compare(board, call, rows):
    if call == SOONER:
        return sooner(board, rows[0], rows[1])
    return later(board, rows[0], rows[1])


def answer_call(board, call, numbers, rows):
    if call <= CLEAR or call == SHIFT:
        return change(board, call, numbers)
    if call <= SLACKS:
        return look_at(board, call, numbers, rows)
    if call <= RESERVE:
        return find(board, call, numbers)
    return compare(board, call, rows)


def answers(calls):
    board = Board()
    reader = Reader(calls)
    told = []
    while not reader.at_end():
        call = reader.read_number()
        numbers = reader.read_numbers(HOW_MANY_NUMBERS[call])
        rows = reader.read_rows(HOW_MANY_ROWS[call])
        answer = answer_call(board, call, numbers, rows)
        told.append(len(answer))
        told.extend(answer)
    return told
