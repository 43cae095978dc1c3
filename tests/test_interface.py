"""What the interface says of the list of calls and of the list that is given back."""

import contextlib
import io
import random
import unittest

from clocktimes.board import answers
from helper import apart, away, bound, check, chip, clear, delay, drawn_full_board, early, feasible, joined, last, late
from helper import later, least, list_all, margins, parted, path, reserve, ring, run, shift, slacks, sooner

EVERY_CALL = [
    margins(1, 2), chip(0, 5), chip(3, 9), path(0, 1, 4, 6), path(1, 0, 7, 8), bound(1, 2, 9), delay(0, 3, 6),
    list_all(), check(0, [6, 1]), slacks(20, [0, 4]), away(0), check(20, [0, 4]), chip(1, 0), away(7),
    check(20, [1]), feasible(13), feasible(12), path(0, 1, 9, 9), early(13), late(13), apart(13, 0, 1), ring(5),
    ring(13), least(), reserve(13, 9), shift(-2), early(13), sooner([1, -8], [-3, 4]), later([1, -8], [-3, 4]),
    late(-1), apart(13, 2, 0), early(5), sooner([1], [1, 2]), shift(100000000), clear(), list_all(), least(),
]
EVERY_ANSWER = [
    [0], [0], [1], [0], [1], [0], [0],
    [1, 2, 2, 0, 5, 2, 9, 2, 0, 1, 3, 6, 1, 0, 7, 8],
    [4, 0, 0, 1, 1, 2, 0, 2, 1],
    [4, 17, -3, 7, 9],
    [0], [0], [-2], [-5], [-3], [1], [1], [1], [2, 0, 2], [2, 5, 9], [-3, 4], [2, 2, 0, 2, 1, -9],
    [0, 0], [10], [3], [0], [2, -2, 0], [2, -3, -8], [2, 1, 4],
    [-2], [-1], [-8], [-3], [-2], [0], [0, 0, 0, 0], [0],
]


class Interface(unittest.TestCase):
    def test_each_answer_stands_behind_its_count(self):
        expected = []
        for answer in EVERY_ANSWER:
            expected += [len(answer)] + answer
        self.assertEqual(answers(joined(EVERY_CALL)), expected)

    def test_written_out(self):
        self.assertEqual(answers([7]), [4, 0, 0, 0, 0])
        self.assertEqual(answers([6]), [1, 0])
        self.assertEqual(answers([8, 0, 0]), [1, 0])
        self.assertEqual(answers([9, 0, 0]), [1, 0])
        self.assertEqual(answers([9, -1, 0]), [1, -2])
        self.assertEqual(answers([1, -5, 5, 2, 0, 0, 1, 2, 8, 1, 1, 6, 9, 1, 1, 6, 0, -1, 0]),
                         [1, 0, 1, 0, 5, 2, 0, 0, 2, 0, 3, 2, -1, 1, 1, -2])

    def test_numbers_in_rows_are_not_taken_for_calls(self):
        self.assertEqual(answers([8, 0, 3, 1, 6, 7, 1, 0, 0, 9, 0, 1, 6]), [1, -3, 1, 0, 1, 0])

    def test_the_later_calls_written_out(self):
        self.assertEqual(answers([10, 0, 11, 0, 12, 0, 14, 0, 15, 16, 0, 3, 17, 0, 0, 18, 0, 0, 19, 5]),
                         [1, 1, 1, 0, 1, 0, 2, 0, 0, 1, 0, 1, 3, 1, 0, 1, 0, 1, 0])
        self.assertEqual(answers([1, -5, 5, 1, 1, 2, 13, 0, 0, 1, 11, 7, 12, 7, 2, 0, 0, 1, 2, 14, 1, 10, 1]),
                         [1, 0, 1, 1, 2, -4, 7, 3, 2, -5, 1, 3, 2, 5, 2, 1, 0, 4, 1, 2, 0, -1, 1, 0])
        self.assertEqual(answers([1, 0, 0, 17, 1, 4, 1, -4, 18, 1, 4, 1, -4, 17, 0, 1, 7, 18, 2, 7, 7, 0]),
                         [1, 0, 2, 1, -4, 2, 1, 4, 1, -3, 1, -3])
        self.assertEqual(answers([13, 0, 0, 0, 16, 0, -1, 19, -2147483648, 15]), [1, -1, 1, -2, 1, 0, 1, 0])

    def test_numbers_in_two_rows_are_not_taken_for_calls(self):
        self.assertEqual(answers([17, 2, 6, 7, 3, 1, 0, 0, 18, 1, 15, 0, 15]), [1, -3, 1, -3, 1, 0])

    def test_what_is_handed_in_stays_as_it_is(self):
        calls = joined(EVERY_CALL)
        copy = list(calls)
        answers(calls)
        self.assertEqual(calls, copy)

    def test_what_is_handed_in_is_not_changed_for_a_while_either(self):
        calls = Watched(joined(EVERY_CALL))
        answers(calls)
        self.assertEqual(list(calls), joined(EVERY_CALL))

    def test_nothing_is_kept_from_one_time_to_the_next(self):
        calls = joined(EVERY_CALL[:-3])
        first = answers(calls)
        self.assertEqual(answers([7]), [4, 0, 0, 0, 0])
        self.assertEqual(answers(calls), first)

    def test_the_list_given_back_is_a_new_one(self):
        calls = joined(EVERY_CALL)
        first = answers(calls)
        copy = list(first)
        first.clear()
        self.assertEqual(answers(calls), copy)

    def test_lists_of_whole_numbers_alone(self):
        told = answers(joined(EVERY_CALL))
        self.assertIs(type(told), list)
        self.assertEqual({type(number) for number in told}, {int})

    def test_nothing_is_printed(self):
        out, err = io.StringIO(), io.StringIO()
        with contextlib.redirect_stdout(out), contextlib.redirect_stderr(err):
            answers(joined(EVERY_CALL))
        self.assertEqual(out.getvalue() + err.getvalue(), "")

    def test_the_longest_lists(self):
        self.assertEqual(answers([7] * 400), [4, 0, 0, 0, 0] * 400)
        self.assertEqual(answers(joined([check(0, [0] * 1000)] * 29 + [slacks(0, [])])), [1, -3] * 29 + [1, 0])
        rows = [sooner([0] * 1000, [1] * 1000), later([0] * 499, [1] * 499)]
        self.assertEqual(answers(joined(rows * 9)), [1, -3] * 18)


class FullLists(unittest.TestCase):
    """400 calls on a board of 16 chips and 48 paths."""

    def full_list(self, scale, tight, seed):
        draw = random.Random(seed)
        before = drawn_full_board(draw, scale, tight).calls()
        asks = []
        for turn in range(400 - len(before)):
            period = draw.choice((0, scale, 2 * scale, 3 * scale, 4 * scale, 2000000000, -1))
            one = [draw.randint(-scale, scale) for k in range(16)]
            other = [draw.randint(-scale, scale) for k in range(draw.choice((15, 16, 16, 16)))]
            asks.append((list_all(), check(period, one), slacks(period, one), feasible(period), early(period),
                         late(period), apart(period, draw.randrange(17), draw.randrange(16)), ring(period), least(),
                         reserve(period, scale), sooner(one, other), later(one, other))[turn % 12])
        return before, asks

    def test_each_call_is_answered_as_if_alone(self):
        for scale, tight, seed in ((10, 0, 50), (30000000, 2, 51), (1000, 8, 52)):
            before, asks = self.full_list(scale, tight, seed)
            told = run(*before, *asks)
            self.assertEqual(len(told), 400)
            for ask, answer in list(zip(asks, told[len(before):]))[::5]:
                self.assertEqual(answer, last(*before, ask), ask)

    def test_twice_the_same_and_what_is_handed_in_stays(self):
        before, asks = self.full_list(1000, 2, 53)
        calls = Watched(joined(before + asks))
        first = answers(calls)
        self.assertEqual(list(calls), joined(before + asks))
        self.assertEqual(answers(calls), first)
        self.assertEqual(len(parted(first)), 400)

    def test_changes_in_between(self):
        before, asks = self.full_list(1000, 2, 54)
        changes = [shift(5), bound(3, -50, 900), away(7), path(2, 9, 100, 300), delay(0, 700, 800), margins(7, 9),
                   shift(-5)]
        calls = list(before)
        for turn, ask in enumerate(asks[:300]):
            calls.append(ask)
            if turn % 40 == 39:
                calls.append(changes[turn // 40])
        told = run(*calls)
        self.assertLessEqual(len(calls), 400)
        for place in range(len(before), len(calls), 7):
            so_far = [call for call in calls[:place] if call[0] in (0, 1, 2, 3, 4, 5, 6, 19)]
            self.assertEqual(told[place], last(*so_far, calls[place]), calls[place])

    def test_four_hundred_of_each_costly_call(self):
        before, asks = self.full_list(30000000, 2, 55)
        for ask in (ring(90000000), ring(0), least(), reserve(120000000, 100000000)):
            told = run(*before, *[ask] * (400 - len(before)))
            self.assertEqual(told[len(before):], [told[-1]] * (400 - len(before)))


class Watched(list):
    """A list that may be read alone."""

    def refuse(self, *arguments, **named):
        raise AssertionError("what was handed in was changed")

    append = extend = insert = pop = remove = clear = sort = reverse = refuse
    __setitem__ = __delitem__ = __iadd__ = __imul__ = refuse


if __name__ == "__main__":
    unittest.main()
