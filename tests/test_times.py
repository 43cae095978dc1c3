"""Points 10 to 13: feasible, early, late and apart, which speak of all right rows."""

import random
import unittest

from helper import GREATEST_INT, LEAST_INT, LONGEST, TOP, Plain
from helper import apart, away, bound, check, chip, clear, delay, drawn_boards, drawn_full_board, early, feasible
from helper import last, late, list_all, margins, path, run, shift

# Chip 1's time less chip 0's is at least 13 less the period, and at most -2: there's no row below a period of 15.
PAIR = [margins(1, 2), chip(0, 20), chip(0, 20), path(0, 1, 0, 12)]
# The hold rule of its path alone can't be kept.
NEVER = [margins(0, 1), chip(0, 0), path(0, 0, 0, 0)]
ASKS = [feasible, early, late, lambda period: apart(period, 0, 0)]


class TimeCase(unittest.TestCase):
    def refused(self, before, call, number):
        told = run(*before, list_all(), call, list_all())
        self.assertEqual(told[-2], [number], (before, call))
        self.assertEqual(told[-1], told[-3])

    def answered(self, before, period, earliest, latest):
        """The period is feasible, with these times and no others at the ends."""
        told = run(*before, feasible(period), early(period), late(period))
        self.assertEqual(told[-3:], [[1], [len(earliest)] + earliest, [len(latest)] + latest], (before, period))

    def not_feasible(self, before, period):
        self.assertEqual(run(*before, feasible(period), early(period), late(period))[-3:], [[0], [-8], [-8]],
                         (before, period))


class Refusals(TimeCase):
    def test_periods_outside(self):
        for period in (-1, LONGEST + 1, LEAST_INT, GREATEST_INT):
            for ask in ASKS:
                self.refused([chip(0, 0)], ask(period), -2)
            for ask in ASKS[:3]:
                self.refused([], ask(period), -2)

    def test_periods_at_both_ends(self):
        for period in (0, LONGEST):
            self.answered([], period, [], [])
            self.answered([chip(-3, 4)], period, [-3], [4])
            self.assertEqual(last(chip(-3, 4), apart(period, 0, 0)), [0, 0])

    def test_no_right_row(self):
        self.assertEqual(last(*NEVER, feasible(5)), [0])
        for ask in ASKS[1:]:
            self.refused(NEVER, ask(5), -8)
            self.refused(NEVER, ask(0), -8)
            self.refused(NEVER, ask(LONGEST), -8)

    def test_the_period_is_looked_at_before_the_rows(self):
        for ask in ASKS:
            self.refused(NEVER, ask(-1), -2)
            self.refused(NEVER, ask(LONGEST + 1), -2)

    def test_no_such_chip(self):
        for wrong in (-1, -2, 2, 16, LEAST_INT, GREATEST_INT):
            self.refused(PAIR, apart(10, wrong, 0), -1)
            self.refused(PAIR, apart(10, 0, wrong), -1)
            self.refused(PAIR, apart(10, wrong, wrong), -1)
        self.refused([], apart(0, 0, 0), -1)
        full = [chip(0, 0) for k in range(16)]
        self.refused(full, apart(0, 16, 0), -1)
        self.assertEqual(last(*full, apart(0, 15, 15)), [0, 0])

    def test_the_order_of_the_refusals_of_apart(self):
        for period in (-1, LONGEST + 1):
            self.refused(PAIR, apart(period, 2, 0), -2)
            self.refused(PAIR, apart(period, 0, -1), -2)
            self.refused(NEVER, apart(period, 0, 0), -2)
            self.refused(NEVER, apart(period, 1, 1), -2)
        self.refused(NEVER, apart(5, 1, 0), -1)
        self.refused(NEVER, apart(5, 0, -1), -1)
        self.refused(NEVER, apart(5, 0, 0), -8)

    def test_they_change_nothing(self):
        told = run(*PAIR, list_all(), feasible(10), early(10), late(10), apart(10, 0, 1), list_all())
        self.assertEqual(told[-1], told[-6])


class Rows(TimeCase):
    def test_no_chips_and_no_paths(self):
        self.answered([], 0, [], [])
        self.answered([margins(TOP, TOP)], 0, [], [])

    def test_chips_alone_have_their_bounds(self):
        self.answered([chip(-3, 4), chip(5, 5), chip(-9, -8)], 0, [-3, 5, -9], [4, 5, -8])

    def test_one_chip_with_lo_and_hi_alike(self):
        for same in (-TOP, -1, 0, 1, TOP):
            self.answered([chip(same, same)], 0, [same], [same])

    def test_the_setup_rule_at_its_edge(self):
        self.not_feasible(PAIR, 14)
        self.answered(PAIR, 15, [2, 0], [20, 18])
        self.answered(PAIR, 16, [2, 0], [20, 18])

    def test_the_hold_rule_at_its_edge(self):
        before = [margins(0, 5), chip(0, 3), chip(0, 9), path(0, 1, 2, 2)]
        self.answered(before, 20, [3, 0], [3, 0])
        self.not_feasible(before + [margins(0, 6)], 20)
        self.not_feasible(before + [delay(0, 1, 2)], 20)
        self.not_feasible(before + [bound(0, 0, 2)], 20)
        self.not_feasible(before + [bound(1, 1, 9)], 20)

    def test_a_path_from_a_chip_to_itself(self):
        before = [margins(2, 3), chip(-1, 1), path(0, 0, 3, 8)]
        self.answered(before, 10, [-1], [1])
        self.not_feasible(before, 9)
        self.not_feasible(before + [delay(0, 2, 8)], 10)
        self.not_feasible(before + [margins(2, 4)], LONGEST)

    def test_several_paths_between_two_chips(self):
        before = [chip(0, 100), chip(0, 100), path(0, 1, 7, 9), path(0, 1, 4, 20), path(1, 0, 8, 15),
                  path(1, 0, 3, 5)]
        # t1 - t0 is at least 20 - P and -3, at most P - 15 and 4.
        self.answered(before, 20, [0, 0], [100, 100])
        self.assertEqual(last(*before, apart(20, 0, 1)), [0, 4])
        self.answered(before, 18, [0, 2], [98, 100])
        self.assertEqual(last(*before, apart(18, 0, 1)), [2, 3])
        self.assertEqual(last(*before, apart(18, 1, 0)), [-3, -2])
        self.not_feasible(before, 17)

    def test_bounds_are_brought_along_a_chain(self):
        before = [chip(0, 100), chip(10, 100), chip(0, 30), path(0, 1, 0, 12), path(1, 2, 50, 50)]
        # t0 is from t1 to t1 + P - 12, t1 is from t2 - 50 to t2 + P - 50.
        self.not_feasible(before, 29)
        self.answered(before, 30, [10, 10, 30], [28, 10, 30])
        self.answered(before, 35, [10, 10, 25], [38, 15, 30])
        self.answered(before, 2000, [10, 10, 0], [100, 100, 30])

    def test_both_margins_count_each_for_its_own_rule(self):
        before = [chip(0, 50), chip(0, 50), path(0, 1, 10, 10)]
        self.assertEqual(last(*before, margins(3, 0), apart(11, 0, 1)), [2, 10])
        self.assertEqual(last(*before, margins(0, 3), apart(11, 0, 1)), [-1, 7])

    def test_changes_are_seen(self):
        self.answered(PAIR + [away(0)], 0, [0, 0], [20, 20])
        self.answered(PAIR + [bound(0, 5, 6)], 15, [5, 3], [6, 4])
        self.answered(PAIR + [delay(0, 9, 12)], 15, [0, 0], [20, 20])
        self.answered(PAIR + [clear(), chip(1, 2)], 0, [1], [2])
        self.answered(PAIR + [shift(-7)], 15, [-5, -7], [13, 11])

    def test_the_ends_of_the_ranges(self):
        ends = [margins(TOP, TOP), chip(-TOP, TOP), chip(-TOP, TOP), path(0, 1, 0, TOP)]
        self.not_feasible(ends, 299999999)
        self.answered(ends, 300000000, [0, -TOP], [TOP, 0])
        self.answered(ends, LONGEST, [0, -TOP], [TOP, 0])
        self.answered(ends + [delay(0, TOP, TOP)], 200000000, [-TOP, -TOP], [TOP, TOP])
        self.assertEqual(last(*ends, apart(LONGEST, 0, 1)), [-2 * TOP, -TOP])
        self.assertEqual(last(chip(-TOP, TOP), chip(-TOP, TOP), apart(0, 0, 1)), [-2 * TOP, 2 * TOP])

    def test_the_longest_chain(self):
        # Each chip is later than the one before by at least 1; the last is at most 15.
        before = [chip(0, TOP) for k in range(16)] + [path(k, k + 1, 5, 5) for k in range(15)] + [bound(15, 0, 15)]
        self.answered(before, 4, list(range(16)), list(range(16)))
        self.not_feasible(before + [bound(15, 0, 14)], 4)
        turned = [chip(0, TOP) for k in range(16)] + [path(k + 1, k, 5, 5) for k in range(15)] + [bound(0, 0, 15)]
        self.answered(turned, 4, list(range(15, -1, -1)), list(range(15, -1, -1)))
        self.not_feasible(turned + [bound(0, 0, 14)], 4)


class Apart(TimeCase):
    def test_of_a_chip_and_itself(self):
        self.assertEqual(last(*PAIR, apart(15, 0, 0)), [0, 0])
        self.assertEqual(last(*PAIR, apart(15, 1, 1)), [0, 0])

    def test_it_is_the_second_less_the_first(self):
        before = [chip(0, 1), chip(10, 30)]
        self.assertEqual(last(*before, apart(0, 0, 1)), [9, 30])
        self.assertEqual(last(*before, apart(0, 1, 0)), [-30, -9])

    def test_a_difference_narrower_than_the_ends_of_both(self):
        told = run(*PAIR, early(20), late(20), apart(20, 0, 1))
        self.assertEqual(told[-3:], [[2, 2, 0], [2, 20, 18], [-7, -2]])

    def test_through_a_third_chip(self):
        before = [chip(0, 100), chip(0, 100), chip(0, 100), path(0, 1, 4, 9), path(1, 2, 5, 8)]
        self.assertEqual(last(*before, apart(10, 0, 2)), [-3, 9])
        self.assertEqual(last(*before, apart(10, 2, 0)), [-9, 3])


class AgainstAllRows(TimeCase):
    def test_right_rows_are_those_that_check_finds_nothing_wrong_with(self):
        for plain, period in drawn_boards(120, 10):
            rows = plain.rows()
            told = plain.ask(*[check(period, row) for row in rows])
            self.assertEqual([row for row, answer in zip(rows, told) if answer == [0]], plain.right_rows(period),
                             plain)

    def test_ends_of_all_right_rows(self):
        found = 0
        for plain, period in drawn_boards(600, 11):
            right = plain.right_rows(period)
            if right:
                found += 1
                self.answered(plain.calls(), period, [min(times) for times in zip(*right)],
                              [max(times) for times in zip(*right)])
            else:
                self.not_feasible(plain.calls(), period)
        self.assertTrue(200 < found < 400, found)

    def test_differences_in_all_right_rows(self):
        for plain, period in drawn_boards(300, 12):
            right = plain.right_rows(period)
            for i in range(len(plain.chips)):
                for j in range(len(plain.chips)):
                    differences = [row[j] - row[i] for row in right]
                    expected = [min(differences), max(differences)] if right else [-8]
                    self.assertEqual(plain.ask(apart(period, i, j)), [expected], (plain, period, i, j))

    def test_early_and_late_are_right_rows(self):
        for plain, period in drawn_boards(300, 13):
            earliest, latest = plain.ask(early(period), late(period))
            if earliest != [-8]:
                self.assertEqual(plain.ask(check(period, earliest[1:]), check(period, latest[1:])), [[0], [0]], plain)


class FullBoards(TimeCase):
    def boards(self, seed):
        draw = random.Random(seed)
        return [(drawn_full_board(draw, scale, tight), 3 * scale)
                for scale in (10, 1000, 30000000) for tight in (0, 2, 4, 6, 8) for k in range(3)]

    def test_the_times_are_right_rows_and_none_goes_further(self):
        found = 0
        for plain, period in self.boards(14):
            earliest, latest = plain.ask(early(period), late(period))
            if earliest == [-8]:
                self.assertEqual(plain.ask(feasible(period)), [[0]])
                continue
            found += 1
            self.assertEqual(plain.ask(check(period, earliest[1:]), check(period, latest[1:])), [[0], [0]])
            for k, (lo, hi) in enumerate(plain.chips):
                if earliest[1 + k] > lo:
                    self.not_feasible(plain.calls() + [bound(k, lo, earliest[1 + k] - 1)], period)
                if latest[1 + k] < hi:
                    self.not_feasible(plain.calls() + [bound(k, latest[1 + k] + 1, hi)], period)
        self.assertTrue(10 < found < 45, found)

    def test_differences_by_the_least_sums_of_all_pairs(self):
        for plain, period in self.boards(15)[::4]:
            sums = least_sums_of_pairs(plain, period)
            pairs = [(i, j) for i in range(16) for j in range(16)]
            told = plain.ask(*[apart(period, i, j) for i, j in pairs])
            for (i, j), answer in zip(pairs, told):
                expected = [-8] if sums is None else [-sums[j, i], sums[i, j]]
                self.assertEqual(answer, expected, (plain, i, j))


def least_sums_of_pairs(plain, period):
    places = list(range(len(plain.chips))) + ["zero"]
    sums = {(a, b): 0 if a == b else 10 ** 15 for a in places for b in places}
    for kind, number, begin, end, limit in plain.rules(period):
        sums[begin, end] = min(sums[begin, end], limit)
    for through in places:
        for a in places:
            for b in places:
                sums[a, b] = min(sums[a, b], sums[a, through] + sums[through, b])
    return None if any(sums[a, a] < 0 for a in places) else sums


class PlainReckoning(unittest.TestCase):
    def test_the_words_by_hand(self):
        plain = Plain(1, 2, [(0, 3), (1, 2)], [(0, 1, 4, 6)])
        self.assertEqual(plain.missed(5, [4, 0]), [(0, 0), (1, 1), (2, 0)])
        self.assertEqual(plain.missed(9, [-1, 2]), [(1, 0), (3, 0)])
        self.assertEqual(plain.right_rows(6), [[0, 1], [0, 2], [1, 2]])
        self.assertEqual(plain.rules(5), [(0, 0, "zero", 0, 3), (1, 0, 0, "zero", 0), (0, 1, "zero", 1, 2),
                                          (1, 1, 1, "zero", -1), (2, 0, 1, 0, -2), (3, 0, 0, 1, 2)])


if __name__ == "__main__":
    unittest.main()
