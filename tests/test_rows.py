"""Points 8, 9, 17 and 18: check and slacks, which take a period and a row of times; sooner and later, of two rows."""

import itertools
import unittest

from helper import GREATEST_INT, LEAST_INT, LONGEST, TOP
from helper import away, bound, check, chip, clear, delay, last, later, list_all, margins, path, run, slacks, sooner

# With the times 0 and 10 and the period 25, each path has exactly nothing left in both of its rules:
# path 0: 0 + 30 + 5 = 10 + 25 and 0 + 17 = 10 + 7; path 1: 10 + 10 + 5 = 0 + 25 and 10 + 0 = 0 + 7 + 3.
EDGE = [margins(5, 7), chip(0, 0), chip(10, 10), path(0, 1, 17, 30), path(1, 0, 0, 10)]


class RowCase(unittest.TestCase):
    def checked(self, before, period, times, rules):
        expected = [len(rules)]
        for rule in rules:
            expected += rule
        self.assertEqual(last(*before, check(period, times)), expected)

    def left(self, before, period, times, numbers):
        self.assertEqual(last(*before, slacks(period, times)), [len(numbers)] + numbers)

    def both_refuse(self, before, period, times, number):
        for ask in (check, slacks):
            told = run(*before, list_all(), ask(period, times), list_all())
            self.assertEqual(told[-2], [number], (ask, period, times))
            self.assertEqual(told[-1], told[-3])


class Refusals(RowCase):
    def test_periods_at_both_ends(self):
        for period in (0, LONGEST):
            self.checked([], period, [], [])
            self.left([], period, [], [])
            self.checked([chip(0, 0)], period, [0], [])
            self.left([chip(0, 0)], period, [0], [])

    def test_periods_outside(self):
        for period in (-1, LONGEST + 1, LEAST_INT, GREATEST_INT):
            self.both_refuse([], period, [], -2)
            self.both_refuse(EDGE, period, [0, 10], -2)

    def test_rows_too_short_and_too_long(self):
        for times in ([], [0], [0, 10, 0], [0] * 1000):
            self.both_refuse(EDGE, 25, times, -3)
        self.both_refuse([], 25, [0], -3)
        self.both_refuse([], 25, [0] * 1000, -3)
        sixteen = [chip(0, 0) for k in range(16)]
        self.both_refuse(sixteen, 25, [0] * 15, -3)
        self.both_refuse(sixteen, 25, [0] * 17, -3)
        self.checked(sixteen, 25, [0] * 16, [])

    def test_the_row_is_as_long_as_there_are_chips_not_paths(self):
        before = [chip(0, 0), path(0, 0, 0, 0), path(0, 0, 0, 0)]
        self.both_refuse(before, 25, [0, 0], -3)
        self.checked(before, 25, [0], [])

    def test_the_period_is_looked_at_before_the_row(self):
        for period in (-1, LONGEST + 1):
            for times in ([], [0], [0, 10, 0]):
                self.both_refuse(EDGE, period, times, -2)
        self.both_refuse([], -1, [0], -2)

    def test_what_is_behind_a_refused_row_is_read_rightly(self):
        self.assertEqual(run(chip(1, 2), check(5, [7, 8, 9]), slacks(-1, [7, 8, 9]), slacks(5, []), list_all())[1:],
                         [[-3], [-2], [-3], [0, 0, 1, 1, 2, 0]])

    def test_both_change_nothing(self):
        told = run(*EDGE, list_all(), check(0, [5, 5]), slacks(0, [5, 5]), list_all())
        self.assertEqual(told[-1], told[-4])


class Check(RowCase):
    def test_no_chips_and_no_paths(self):
        self.checked([], 0, [], [])
        self.checked([margins(TOP, TOP)], 0, [], [])

    def test_hi_at_the_edge_and_missed_by_one(self):
        self.checked([chip(-3, 4)], 0, [4], [])
        self.checked([chip(-3, 4)], 0, [5], [[0, 0]])

    def test_lo_at_the_edge_and_missed_by_one(self):
        self.checked([chip(-3, 4)], 0, [-3], [])
        self.checked([chip(-3, 4)], 0, [-4], [[1, 0]])

    def test_the_edge_of_all_four_kinds(self):
        self.checked(EDGE, 25, [0, 10], [])

    def test_setup_missed_by_one_in_each_part(self):
        self.checked(EDGE, 24, [0, 10], [[2, 0], [2, 1]])
        self.checked(EDGE + [delay(0, 17, 31)], 25, [0, 10], [[2, 0]])
        self.checked(EDGE + [delay(1, 0, 11)], 25, [0, 10], [[2, 1]])
        self.checked(EDGE + [margins(6, 7)], 25, [0, 10], [[2, 0], [2, 1]])

    def test_hold_missed_by_one_in_each_part(self):
        wide = [bound(0, -99, 99), bound(1, -99, 99)]
        self.checked(EDGE + [delay(0, 16, 30)], 25, [0, 10], [[3, 0]])
        self.checked(EDGE + [margins(5, 10)], 25, [0, 10], [[3, 0]])
        self.checked(EDGE + [margins(5, 11)], 25, [0, 10], [[3, 0], [3, 1]])
        self.checked(EDGE + wide + [away(1)], 26, [0, 11], [[3, 0]])
        self.checked(EDGE + wide + [away(1)], 26, [-1, 10], [[3, 0]])

    def test_setup_missed_by_one_in_each_time(self):
        wide = [bound(0, -99, 99), bound(1, -99, 99), away(1)]
        self.checked(EDGE + wide, 25, [1, 10], [[2, 0]])
        self.checked(EDGE + wide, 25, [0, 9], [[2, 0]])
        self.checked(EDGE + wide, 25, [1, 11], [])

    def test_all_four_kinds_in_their_order(self):
        before = [margins(1, 1), chip(0, 5), chip(0, 5), chip(0, 5), path(0, 1, 0, 0), path(1, 0, 0, 0)]
        # Path 0 needs 6 + 0 + 1 at most -1 + 0; path 1 needs -1 + 0 at least 6 + 1.
        self.checked(before, 0, [6, -1, 3], [[0, 0], [1, 1], [2, 0], [3, 1]])

    def test_both_rules_of_one_path_setup_first(self):
        before = [margins(1, 1), chip(0, 0), chip(0, 0), path(0, 0, 0, 0), path(0, 1, 0, 0), path(1, 1, 5, 5)]
        self.checked(before, 0, [0, 0], [[2, 0], [3, 0], [2, 1], [3, 1], [2, 2]])

    def test_chips_come_one_by_one_not_kind_by_kind(self):
        before = [chip(0, 0), chip(0, 0), chip(0, 0)]
        self.checked(before, 0, [-1, 1, -1], [[1, 0], [0, 1], [1, 2]])

    def test_every_rule_of_a_full_board(self):
        before = [margins(1, 1)] + [chip(0, 0) for k in range(16)]
        before += [path(k % 16, (k + 3) % 16, 0, 0) for k in range(48)]
        rules = [[0, k] for k in range(16)]
        for k in range(48):
            rules += [[2, k], [3, k]]
        self.checked(before, 0, [1] * 16, rules)

    def test_a_path_from_a_chip_to_itself(self):
        before = [margins(2, 3), chip(0, 0), path(0, 0, 3, 8)]
        self.checked(before, 10, [0], [])
        self.checked(before, 9, [0], [[2, 0]])
        self.checked(before + [delay(0, 2, 8)], 10, [0], [[3, 0]])

    def test_away_gives_the_rules_behind_it_lesser_numbers(self):
        before = [chip(0, 0), path(0, 0, 0, 0), path(0, 0, 0, 1), path(0, 0, 0, 0), path(0, 0, 0, 2)]
        self.checked(before, 0, [0], [[2, 1], [2, 3]])
        self.checked(before + [away(0)], 0, [0], [[2, 0], [2, 2]])
        self.checked(before + [away(1)], 0, [0], [[2, 2]])
        self.checked(before + [away(3)], 0, [0], [[2, 1]])

    def test_changes_are_seen(self):
        self.checked([chip(0, 0), bound(0, 1, 1)], 0, [0], [[1, 0]])
        self.checked([chip(0, 0), path(0, 0, 0, 0), margins(1, 1), clear(), chip(5, 5)], 0, [5], [])

    def test_the_greatest_and_least_numbers(self):
        before = [margins(TOP, TOP), chip(-TOP, TOP), chip(-TOP, TOP), path(0, 1, 0, TOP), path(1, 0, 0, TOP)]
        self.checked(before, LONGEST, [GREATEST_INT, LEAST_INT], [[0, 0], [1, 1], [2, 0], [3, 1]])
        self.checked(before, LONGEST, [-TOP, TOP], [[3, 0]])


class Slacks(RowCase):
    def test_no_paths(self):
        self.left([], 0, [], [])
        self.left([chip(0, 0), chip(1, 1)], 7, [5, 6], [])

    def test_one_path(self):
        before = [margins(3, 4), chip(0, 0), chip(0, 0), path(0, 1, 20, 50)]
        # 17 + 100 - (6 + 50 + 3) and 6 + 20 - (17 + 4)
        self.left(before, 100, [6, 17], [58, 5])

    def test_at_the_edge(self):
        self.left(EDGE, 25, [0, 10], [0, 0, 0, 3])

    def test_numbers_below_zero(self):
        before = [margins(3, 4), chip(0, 0), chip(0, 0), path(0, 1, 1, 2), path(1, 0, 1, 2)]
        # 20 + 5 - (-10 + 2 + 3), -10 + 1 - (20 + 4), -10 + 5 - (20 + 2 + 3), 20 + 1 - (-10 + 4)
        self.left(before, 5, [-10, 20], [30, -33, -30, 27])

    def test_setup_and_hold_are_not_mistaken(self):
        before = [chip(0, 0), path(0, 0, 10, 100)]
        self.left(before + [margins(1, 0)], 1000, [0], [899, 10])
        self.left(before + [margins(0, 1)], 1000, [0], [900, 9])

    def test_the_period_is_of_the_setup_rule_alone(self):
        before = [chip(0, 0), path(0, 0, 10, 100)]
        self.left(before, 0, [0], [-100, 10])
        self.left(before, LONGEST, [0], [LONGEST - 100, 10])

    def test_a_path_from_a_chip_to_itself(self):
        for time in (-7, 0, 7):
            self.left([margins(2, 3), chip(0, 0), path(0, 0, 1, 8)], 10, [time], [0, -2])

    def test_the_bounds_of_chips_do_not_count(self):
        before = [chip(5, 6), chip(5, 6), path(0, 1, 1, 2)]
        self.left(before, 10, [1000, -1000], [-1992, 2001])

    def test_one_for_each_path_in_order(self):
        before = [chip(0, 0), chip(0, 0), chip(0, 0), path(0, 1, 0, 1), path(2, 0, 3, 7), path(1, 1, 2, 2)]
        self.left(before, 10, [1, 20, 300], [28, -19, -296, 302, 8, 2])

    def test_away_takes_its_two_numbers_out(self):
        before = [chip(0, 0)] + [path(0, 0, k, 10 * k) for k in range(1, 5)]
        self.left(before, 100, [0], [90, 1, 80, 2, 70, 3, 60, 4])
        self.left(before + [away(0)], 100, [0], [80, 2, 70, 3, 60, 4])
        self.left(before + [away(1)], 100, [0], [90, 1, 70, 3, 60, 4])
        self.left(before + [away(3)], 100, [0], [90, 1, 80, 2, 70, 3])
        self.left(before + [away(1), away(1)], 100, [0], [90, 1, 60, 4])

    def test_changes_are_seen(self):
        before = [chip(0, 0), path(0, 0, 1, 2), delay(0, 30, 40), margins(5, 6)]
        self.left(before, 50, [0], [5, 24])

    def test_the_greatest_and_least_numbers(self):
        before = [margins(TOP, TOP), chip(0, 0), chip(0, 0), path(0, 1, 0, TOP)]
        self.left(before, LONGEST, [LEAST_INT, GREATEST_INT], [6094967295, -4394967295])
        self.left(before, 0, [GREATEST_INT, LEAST_INT], [-4494967295, 4194967295])

    def test_a_full_board(self):
        before = [margins(1, 2)] + [chip(0, 0) for k in range(16)]
        before += [path(k % 16, (5 * k) % 16, k, 2 * k) for k in range(48)]
        times = [k * k for k in range(16)]
        numbers = []
        for k in range(48):
            i, j = k % 16, (5 * k) % 16
            numbers += [j * j + 9 - i * i - 2 * k - 1, i * i + k - j * j - 2]
        self.left(before, 9, times, numbers)


class Together(RowCase):
    def test_check_tells_the_rules_whose_slack_is_below_zero(self):
        before = [margins(1, 2), chip(-1, 1), chip(0, 2), path(0, 1, 1, 3), path(1, 0, 2, 2), path(1, 1, 2, 4)]
        for period in range(8):
            for row in itertools.product(range(-3, 4), repeat=2):
                self.agree(before, period, list(row))

    def agree(self, before, period, times):
        told = run(*before, slacks(period, times), check(period, times))
        rules = []
        for number, (lo, hi) in enumerate(((-1, 1), (0, 2))):
            rules += [0, number] if times[number] > hi else []
            rules += [1, number] if times[number] < lo else []
        for place, number in enumerate(told[-2][1:]):
            rules += [2 + place % 2, place // 2] if number < 0 else []
        self.assertEqual(told[-1], [len(rules) // 2] + rules, (period, times))


class TwoRows(RowCase):
    def compared(self, before, one, other, lesser, greater):
        count = len(lesser)
        self.assertEqual(run(*before, sooner(one, other), later(one, other))[-2:],
                         [[count] + lesser, [count] + greater])

    def both_rows_refused(self, before, one, other):
        for call in (sooner, later):
            told = run(*before, list_all(), call(one, other), list_all())
            self.assertEqual(told[-2], [-3], (call, one, other))
            self.assertEqual(told[-1], told[-3])

    def test_no_chips(self):
        self.compared([], [], [], [], [])

    def test_chip_by_chip(self):
        before = [chip(0, 0)] * 4
        self.compared(before, [1, 9, 5, 0], [2, 3, 5, 1], [1, 3, 5, 0], [2, 9, 5, 1])
        self.compared(before, [2, 3, 5, 1], [1, 9, 5, 0], [1, 3, 5, 0], [2, 9, 5, 1])

    def test_equal_times(self):
        self.compared([chip(0, 0)] * 3, [4, -4, 0], [4, -4, 0], [4, -4, 0], [4, -4, 0])

    def test_numbers_below_zero(self):
        before = [chip(0, 0)] * 3
        self.compared(before, [-1, -5, 3], [-2, 4, -3], [-2, -5, -3], [-1, 4, 3])
        self.compared([chip(0, 0)], [-8], [-3], [-8], [-3])

    def test_the_bounds_of_chips_do_not_count(self):
        self.compared([chip(5, 6)], [LEAST_INT], [GREATEST_INT], [LEAST_INT], [GREATEST_INT])

    def test_sixteen_chips(self):
        one = [k * k for k in range(16)]
        other = [10 * k - 20 for k in range(16)]
        self.compared([chip(0, 0)] * 16, one, other, [min(k * k, 10 * k - 20) for k in range(16)],
                      [max(k * k, 10 * k - 20) for k in range(16)])

    def test_rows_too_short_and_too_long(self):
        before = [chip(0, 0)] * 2
        for wrong in ([], [1], [1, 2, 3], [1] * 1000):
            self.both_rows_refused(before, wrong, [1, 2])
            self.both_rows_refused(before, [1, 2], wrong)
            self.both_rows_refused(before, wrong, wrong)
        self.both_rows_refused([], [1], [])
        self.both_rows_refused([], [], [1])
        self.both_rows_refused([chip(0, 0)] * 16, [1] * 16, [1] * 17)
        self.both_rows_refused([chip(0, 0)] * 16, [1] * 15, [1] * 16)

    def test_as_many_as_chips_not_paths(self):
        self.both_rows_refused([chip(0, 0), path(0, 0, 0, 0), path(0, 0, 0, 0)], [1, 2], [1, 2])

    def test_what_is_behind_a_refused_call_is_read_rightly(self):
        self.assertEqual(run(chip(1, 2), sooner([7, 8], [9]), later([], [6, 7, 6]), list_all())[1:],
                         [[-3], [-3], [0, 0, 1, 1, 2, 0]])

    def test_both_change_nothing(self):
        told = run(*EDGE, list_all(), sooner([1, 2], [3, 4]), later([1, 2], [3, 4]), list_all())
        self.assertEqual(told[-1], told[-4])

    def test_of_two_right_rows_both_are_right(self):
        before = [chip(0, 9), chip(0, 9), path(0, 1, 2, 5)]
        self.assertEqual(run(*before, check(8, [3, 5]), check(8, [7, 4]), sooner([3, 5], [7, 4]),
                             later([3, 5], [7, 4]), check(8, [3, 4]), check(8, [7, 5]))[-6:],
                         [[0], [0], [2, 3, 4], [2, 7, 5], [0], [0]])


if __name__ == "__main__":
    unittest.main()
