"""Points 15 and 16: least, the least period that will do, and reserve, by which the margins may grow."""

import random
import unittest

from helper import GREATEST_INT, LEAST_INT, LONGEST, TOP, Plain
from helper import away, bound, chip, delay, drawn_boards, drawn_full_board, early, feasible, last, late, least
from helper import list_all, margins, path, reserve, ring, run

# The hold rule of its path alone can't be kept.
NEVER = [margins(0, 1), chip(0, 0), path(0, 0, 0, 0)]


class Least(unittest.TestCase):
    def told(self, before, period):
        """It is the least one: feasible says so of it and of the one below it."""
        answer, can_be = run(*before, least(), feasible(period))[-2:]
        self.assertEqual((answer, can_be), ([period], [1]), before)
        if period > 0:
            self.assertEqual(last(*before, feasible(period - 1)), [0], before)

    def none(self, before):
        self.assertEqual(run(*before, least(), feasible(LONGEST))[-2:], [[-9], [0]], before)

    def test_no_chips_and_no_paths(self):
        self.told([], 0)
        self.told([margins(TOP, TOP)], 0)

    def test_chips_alone(self):
        self.told([chip(5, 5), chip(-TOP, TOP)], 0)

    def test_zero_where_zero_will_do(self):
        self.told([chip(0, 0), path(0, 0, 0, 0)], 0)
        # Chip 1 may be later than chip 0 by the whole delay, but not by the margin too.
        self.told([chip(0, 0), chip(25, 30), path(0, 1, 25, 25)], 0)
        self.told([margins(5, 0), chip(0, 0), chip(25, 30), path(0, 1, 25, 25)], 5)

    def test_one_path_from_a_chip_to_itself(self):
        self.told([margins(2, 3), chip(0, 0), path(0, 0, 3, 8)], 10)
        self.told([chip(0, 0), path(0, 0, 0, 1)], 1)

    def test_the_mean_of_a_ring_is_rounded_up(self):
        before = [margins(1, 0), chip(0, 100), chip(0, 100), chip(0, 100), path(0, 1, 20, 20), path(1, 0, 20, 25)]
        self.told(before, 24)
        self.told(before + [delay(1, 20, 24)], 23)
        self.told(before + [away(1), path(1, 2, 20, 30), path(2, 0, 20, 38)], 31)
        self.told(before + [away(1), path(1, 2, 20, 30), path(2, 0, 20, 40)], 31)
        self.told(before + [away(1), path(1, 2, 20, 30), path(2, 0, 20, 41)], 32)

    def test_setup_and_hold_of_one_path(self):
        self.told([margins(1, 2), chip(0, 20), chip(0, 20), path(0, 1, 0, 12)], 15)

    def test_bounds_that_do_not_let_the_times_part(self):
        self.told([chip(10, 20), chip(0, 5), path(0, 1, 0, 20)], 25)

    def test_no_period_will_do(self):
        self.none(NEVER)
        self.none([margins(0, 3), chip(0, 5), chip(4, 9), path(0, 1, 1, 1)])
        self.none([margins(0, 5), chip(0, 90), chip(0, 90), path(0, 1, 2, 2), path(1, 0, 7, 7)])
        self.none([margins(0, TOP), chip(-TOP, 0), chip(1, TOP), path(0, 1, 0, 0)])

    def test_far_above_what_the_bounds_of_one_chip_would_need(self):
        before = [margins(TOP, 0), chip(TOP, TOP), chip(-TOP, -TOP), path(0, 1, 0, TOP)]
        self.told(before, 4 * TOP)
        self.told(before + [delay(0, 0, TOP - 1)], 4 * TOP - 1)
        self.told(before + [bound(1, -TOP, 1 - TOP)], 4 * TOP - 1)
        self.told(before + [margins(TOP, TOP)], 4 * TOP)

    def test_the_greatest_delays_on_a_full_board(self):
        before = [margins(TOP, TOP)] + [chip(-TOP, TOP)] * 16 + [path(k % 16, (k + 1) % 16, TOP, TOP)
                                                                 for k in range(48)]
        self.told(before, 2 * TOP)
        self.told(before + [bound(k, 0, 0) for k in range(16)], 2 * TOP)

    def test_it_changes_nothing(self):
        for before in (NEVER, [margins(1, 2), chip(0, 20), chip(0, 20), path(0, 1, 0, 12)]):
            told = run(*before, list_all(), least(), list_all())
            self.assertEqual(told[-1], told[-3])

    def test_against_all_rows(self):
        counts = {}
        for plain, period in drawn_boards(200, 30):
            # All delays, margins and differences are below 40, so that no rule needs a longer period.
            will_do = [trial for trial in range(40) if plain.right_rows(trial)]
            expected = will_do[0] if will_do else -9
            self.assertEqual(plain.ask(least()), [[expected]], plain)
            counts[min(expected, 1)] = counts.get(min(expected, 1), 0) + 1
        self.assertTrue(all(counts.get(sort, 0) > 20 for sort in (-9, 0, 1)), counts)

    def test_full_boards(self):
        draw = random.Random(31)
        found = 0
        for scale in (10, 1000, 30000000):
            for tight in (0, 2, 4, 6, 8, 10):
                plain = drawn_full_board(draw, scale, tight)
                period = plain.ask(least())[0][0]
                if period < 0:
                    self.none(plain.calls())
                else:
                    found += 1
                    self.told(plain.calls(), period)
        self.assertTrue(5 < found < 18, found)


class Reserve(unittest.TestCase):
    def told(self, before, period, most, expected):
        told = run(*before, list_all(), reserve(period, most), list_all(), feasible(period))
        self.assertEqual(told[-3], [expected], (before, period, most))
        self.assertEqual(told[-2], told[-4], "the margins are what they were")
        self.assertEqual(told[-1], [0 if expected == -8 else 1])

    def refused(self, before, period, most, number):
        told = run(*before, list_all(), reserve(period, most), list_all())
        self.assertEqual(told[-2], [number], (before, period, most))
        self.assertEqual(told[-1], told[-3])

    def test_periods_outside(self):
        for period in (-1, LONGEST + 1, LEAST_INT, GREATEST_INT):
            self.refused([], period, 0, -2)
            self.refused([chip(0, 0)], period, 5, -2)
            self.refused([chip(0, 0)], period, -1, -2)

    def test_most_outside(self):
        for most in (-1, TOP + 1, LEAST_INT, GREATEST_INT):
            self.refused([], 0, most, -2)
            self.refused([chip(0, 0)], LONGEST, most, -2)

    def test_no_right_row(self):
        self.refused(NEVER, 0, 0, -8)
        self.refused(NEVER, LONGEST, TOP, -8)
        self.refused([chip(0, 0), path(0, 0, 0, 7)], 6, 3, -8)

    def test_the_order_of_the_refusals(self):
        self.refused(NEVER, -1, 0, -2)
        self.refused(NEVER, LONGEST + 1, 0, -2)
        self.refused(NEVER, 0, -1, -2)
        self.refused(NEVER, 0, TOP + 1, -2)
        self.refused(NEVER, -1, -1, -2)

    def test_both_ends_of_most(self):
        for period in (0, LONGEST):
            self.told([], period, 0, 0)
            self.told([], period, TOP, TOP)
            self.told([chip(0, 0)], period, TOP, TOP)
            self.told([chip(0, 0), path(0, 0, 0, 0)], period, 0, 0)

    def test_the_setup_rule_bounds_it(self):
        self.told([margins(2, 0), chip(0, 0), path(0, 0, 50, 50)], 59, 100, 7)

    def test_the_hold_rule_bounds_it(self):
        self.told([margins(0, 2), chip(0, 0), path(0, 0, 50, 50)], 590, 100, 48)

    def test_both_margins_grow_at_once(self):
        # t1 - t0 is from 12 + r - 15 to 3 - r.
        before = [chip(0, 20), chip(0, 20), path(0, 1, 3, 12)]
        self.told(before, 15, 100, 3)
        self.told(before, 16, 100, 3)
        self.told(before, 17, 100, 4)
        self.told(before, LONGEST, 100, 23)

    def test_a_reserve_of_zero(self):
        self.told([margins(2, 3), chip(0, 0), path(0, 0, 3, 8)], 10, TOP, 0)
        self.told([margins(2, 3), chip(0, 0), path(0, 0, 4, 8)], 10, TOP, 0)
        self.told([margins(2, 3), chip(0, 0), path(0, 0, 4, 8)], 11, TOP, 1)

    def test_most_itself(self):
        before = [chip(0, 0), path(0, 0, 50, 50)]
        for most in (0, 1, 48, 49, 50):
            self.told(before, 100, most, most)
        for most in (51, 52, TOP):
            self.told(before, 100, most, 50)

    def test_grown_margins_above_their_range(self):
        wide = [margins(TOP, TOP), chip(-TOP, TOP), chip(-TOP, TOP), path(0, 1, TOP, TOP)]
        self.told(wide, LONGEST, TOP, TOP)
        self.told([margins(TOP, TOP)], 0, TOP, TOP)
        narrow = [margins(0, TOP), chip(-TOP, TOP // 2), chip(-TOP, TOP), path(0, 1, 0, 0)]
        self.told(narrow, LONGEST, TOP, TOP // 2)
        self.told([margins(TOP, 0), chip(0, 0), path(0, 0, TOP, TOP)], 2 * TOP + 77, TOP, 77)

    def test_what_comes_behind_sees_the_old_margins(self):
        before = [margins(1, 2), chip(0, 20), chip(0, 20), path(0, 1, 3, 12)]
        asks = [early(20), late(20), ring(10), least()]
        self.assertEqual(run(*before, reserve(20, 9), *asks)[-4:], run(*before, *asks)[-4:])

    def test_against_all_rows(self):
        counts = {}
        draw = random.Random(32)
        for plain, period in drawn_boards(250, 33):
            most = draw.randint(0, 6)
            will_do = [growth for growth in range(most + 1) if plain.grown(growth).right_rows(period)]
            expected = will_do[-1] if will_do else -8
            self.told(plain.calls(), period, most, expected)
            sort = "most" if expected == most else min(expected, 1)
            counts[sort] = counts.get(sort, 0) + 1
        self.assertTrue(all(counts.get(sort, 0) > 10 for sort in (-8, 0, 1, "most")), counts)

    def test_full_boards(self):
        draw = random.Random(34)
        counts = {}
        for scale in (10, 1000, 30000000):
            for tight in (0, 2, 4, 6, 8):
                plain = drawn_full_board(draw, scale, tight)
                sort = self.is_greatest(plain, 3 * scale, scale // 2)
                counts[sort] = counts.get(sort, 0) + 1
        self.assertTrue(all(counts.get(sort, 0) > 1 for sort in ("none", "between")), counts)

    def is_greatest(self, plain, period, most):
        growth = plain.ask(reserve(period, most))[0][0]
        if growth == -8:
            self.assertEqual(plain.ask(feasible(period)), [[0]])
            return "none"
        self.assertEqual(plain.grown(growth).ask(feasible(period)), [[1]])
        if growth == most:
            return "most"
        self.assertEqual(plain.grown(growth + 1).ask(feasible(period)), [[0]])
        return "between"


class PlainReckoning(unittest.TestCase):
    def test_grown_margins(self):
        plain = Plain(1, 2, [(0, 3)], [(0, 0, 4, 6)]).grown(5)
        self.assertEqual((plain.setup, plain.hold, plain.chips, plain.paths), (6, 7, [(0, 3)], [(0, 0, 4, 6)]))


if __name__ == "__main__":
    unittest.main()
