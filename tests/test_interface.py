"""What the interface says of the list of calls and of the list that is given back."""

import contextlib
import io
import unittest

from clocktimes.board import answers
from helper import away, bound, check, chip, clear, delay, joined, list_all, margins, path, slacks

EVERY_CALL = [
    margins(1, 2), chip(0, 5), chip(3, 9), path(0, 1, 4, 6), path(1, 0, 7, 8), bound(1, 2, 9), delay(0, 3, 6),
    list_all(), check(0, [6, 1]), slacks(20, [0, 4]), away(0), check(20, [0, 4]), chip(1, 0), away(7),
    check(20, [1]), clear(), list_all(),
]
EVERY_ANSWER = [
    [0], [0], [1], [0], [1], [0], [0],
    [1, 2, 2, 0, 5, 2, 9, 2, 0, 1, 3, 6, 1, 0, 7, 8],
    [4, 0, 0, 1, 1, 2, 0, 2, 1],
    [4, 17, -3, 7, 9],
    [0], [0], [-2], [-5], [-3], [0], [0, 0, 0, 0],
]


class Interface(unittest.TestCase):
    def test_each_answer_stands_behind_its_count(self):
        expected = []
        for answer in EVERY_ANSWER:
            expected += [len(answer)] + answer
        self.assertEqual(answers(joined(EVERY_CALL)), expected)

    def test_written_out(self):
        self.assertEqual(answers([7]), [4, 0, 0, 0, 0])
        self.assertEqual(answers([6]), [1, 0])
        self.assertEqual(answers([8, 0, 0]), [1, 0])
        self.assertEqual(answers([9, 0, 0]), [1, 0])
        self.assertEqual(answers([9, -1, 0]), [1, -2])
        self.assertEqual(answers([1, -5, 5, 2, 0, 0, 1, 2, 8, 1, 1, 6, 9, 1, 1, 6, 0, -1, 0]),
                         [1, 0, 1, 0, 5, 2, 0, 0, 2, 0, 3, 2, -1, 1, 1, -2])

    def test_numbers_in_rows_are_not_taken_for_calls(self):
        self.assertEqual(answers([8, 0, 3, 1, 6, 7, 1, 0, 0, 9, 0, 1, 6]), [1, -3, 1, 0, 1, 0])

    def test_what_is_handed_in_stays_as_it_is(self):
        calls = joined(EVERY_CALL)
        copy = list(calls)
        answers(calls)
        self.assertEqual(calls, copy)

    def test_what_is_handed_in_is_not_changed_for_a_while_either(self):
        calls = Watched(joined(EVERY_CALL))
        answers(calls)
        self.assertEqual(list(calls), joined(EVERY_CALL))

    def test_nothing_is_kept_from_one_time_to_the_next(self):
        calls = joined(EVERY_CALL[:-2])
        first = answers(calls)
        self.assertEqual(answers([7]), [4, 0, 0, 0, 0])
        self.assertEqual(answers(calls), first)

    def test_the_list_given_back_is_a_new_one(self):
        calls = joined(EVERY_CALL)
        first = answers(calls)
        copy = list(first)
        first.clear()
        self.assertEqual(answers(calls), copy)

    def test_lists_of_whole_numbers_alone(self):
        told = answers(joined(EVERY_CALL))
        self.assertIs(type(told), list)
        self.assertEqual({type(number) for number in told}, {int})

    def test_nothing_is_printed(self):
        out, err = io.StringIO(), io.StringIO()
        with contextlib.redirect_stdout(out), contextlib.redirect_stderr(err):
            answers(joined(EVERY_CALL))
        self.assertEqual(out.getvalue() + err.getvalue(), "")

    def test_the_longest_lists(self):
        self.assertEqual(answers([7] * 400), [4, 0, 0, 0, 0] * 400)
        self.assertEqual(answers(joined([check(0, [0] * 1000)] * 29 + [slacks(0, [])])), [1, -3] * 29 + [1, 0])


class Watched(list):
    """A list that may be read alone."""

    def refuse(self, *arguments, **named):
        raise AssertionError("what was handed in was changed")

    append = extend = insert = pop = remove = clear = sort = reverse = refuse
    __setitem__ = __delitem__ = __iadd__ = __imul__ = refuse


if __name__ == "__main__":
    unittest.main()
