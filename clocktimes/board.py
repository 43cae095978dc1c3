"""Answers the calls on one new board.

A further call needs its number, its place in HOW_MANY_NUMBERS and HOW_MANY_ROWS, and a branch in change or ask.
"""

from clocktimes.changes import add_chip, add_path, clear_all, set_bounds, set_delays, set_margins, take_away
from clocktimes.questions import check, list_all, slacks
from clocktimes.reader import Reader
from clocktimes.state import Board

MARGINS = 0
CHIP = 1
PATH = 2
BOUND = 3
DELAY = 4
AWAY = 5
CLEAR = 6
LIST = 7
CHECK = 8
SLACKS = 9

# By the calls' numbers: how many whole numbers, then how many rows, stand behind a call's number.
HOW_MANY_NUMBERS = (2, 2, 4, 3, 3, 1, 0, 0, 1, 1)
HOW_MANY_ROWS = (0, 0, 0, 0, 0, 0, 0, 0, 1, 1)


def change(board, call, numbers):
    if call == MARGINS:
        return set_margins(board, numbers[0], numbers[1])
    if call == CHIP:
        return add_chip(board, numbers[0], numbers[1])
    if call == PATH:
        return add_path(board, numbers[0], numbers[1], numbers[2], numbers[3])
    if call == BOUND:
        return set_bounds(board, numbers[0], numbers[1], numbers[2])
    if call == DELAY:
        return set_delays(board, numbers[0], numbers[1], numbers[2])
    if call == AWAY:
        return take_away(board, numbers[0])
    return clear_all(board)


def ask(board, call, numbers, rows):
    if call == LIST:
        return list_all(board)
    if call == CHECK:
        return check(board, numbers[0], rows[0])
    return slacks(board, numbers[0], rows[0])


def answer_call(board, call, numbers, rows):
    if call <= CLEAR:
        return change(board, call, numbers)
    return ask(board, call, numbers, rows)


def answers(calls):
    board = Board()
    reader = Reader(calls)
    told = []
    while not reader.at_end():
        call = reader.read_number()
        numbers = reader.read_numbers(HOW_MANY_NUMBERS[call])
        rows = reader.read_rows(HOW_MANY_ROWS[call])
        answer = answer_call(board, call, numbers, rows)
        told.append(len(answer))
        told.extend(answer)
    return told
