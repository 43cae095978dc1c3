"""Points 0 to 7 and 19: the calls that change the board, and list, which shows what they did."""

import unittest

from helper import GREATEST_INT, LEAST_INT, TOP
from helper import away, bound, chip, clear, delay, drawn_boards, early, feasible, last, late, list_all, margins, path
from helper import run, shift

FULL_CHIPS = [chip(-k, k) for k in range(16)]
FULL_PATHS = [path(k % 16, (k + 1) % 16, k, 2 * k) for k in range(48)]
# Two chips and two paths, with margins: nothing in it is alike, so that a change anywhere is seen in the list.
SMALL = [margins(3, 4), chip(-5, 6), chip(7, 8), path(0, 1, 9, 10), path(1, 0, 11, 12)]
SMALL_LISTED = [3, 4, 2, -5, 6, 7, 8, 2, 0, 1, 9, 10, 1, 0, 11, 12]


class ChangeCase(unittest.TestCase):
    def refused(self, before, call, number):
        """The call answers the number alone, and a list behind it is the list before it."""
        told = run(*before, list_all(), call, list_all())
        self.assertEqual(told[-2], [number], call)
        self.assertEqual(told[-1], told[-3], call)

    def taken(self, before, call, answer, listed):
        self.assertEqual(run(*before, call, list_all())[-2:], [answer, listed], call)


class Margins(ChangeCase):
    def test_they_are_zero_at_first(self):
        self.assertEqual(last(list_all()), [0, 0, 0, 0])

    def test_setup_comes_first(self):
        self.taken([], margins(5, 7), [0], [5, 7, 0, 0])

    def test_the_later_ones_hold(self):
        self.taken([margins(5, 7)], margins(2, 1), [0], [2, 1, 0, 0])

    def test_both_ends(self):
        self.taken([margins(5, 7)], margins(0, TOP), [0], [0, TOP, 0, 0])
        self.taken([margins(5, 7)], margins(TOP, 0), [0], [TOP, 0, 0, 0])

    def test_outside(self):
        for wrong in (-1, TOP + 1, LEAST_INT, GREATEST_INT):
            self.refused(SMALL, margins(wrong, 1), -2)
            self.refused(SMALL, margins(1, wrong), -2)
            self.refused(SMALL, margins(wrong, wrong), -2)


class Chips(ChangeCase):
    def test_numbers_count_from_zero(self):
        self.assertEqual(run(chip(1, 2), chip(-4, -3), chip(0, 9)), [[0], [1], [2]])

    def test_listed_in_their_order(self):
        self.taken([chip(1, 2)], chip(-4, -3), [1], [0, 0, 2, 1, 2, -4, -3, 0])

    def test_both_ends(self):
        self.taken([], chip(-TOP, TOP), [0], [0, 0, 1, -TOP, TOP, 0])

    def test_lo_and_hi_alike(self):
        for same in (-TOP, -1, 0, 1, TOP):
            self.taken([], chip(same, same), [0], [0, 0, 1, same, same, 0])

    def test_outside(self):
        for lo, hi in ((-TOP - 1, 0), (0, TOP + 1), (TOP + 1, TOP + 1), (-TOP - 1, -TOP - 1),
                       (LEAST_INT, 0), (0, GREATEST_INT), (LEAST_INT, GREATEST_INT)):
            self.refused(SMALL, chip(lo, hi), -2)

    def test_lo_above_hi(self):
        for lo, hi in ((1, 0), (0, -1), (TOP, -TOP), (TOP, TOP - 1), (TOP + 1, 0), (0, -TOP - 1)):
            self.refused(SMALL, chip(lo, hi), -2)

    def test_the_sixteenth_and_the_one_after(self):
        self.assertEqual(run(*FULL_CHIPS), [[k] for k in range(16)])
        self.refused(FULL_CHIPS, chip(0, 0), -4)

    def test_wrong_bounds_are_told_before_that_there_are_sixteen(self):
        self.refused(FULL_CHIPS, chip(1, 0), -2)
        self.refused(FULL_CHIPS, chip(0, TOP + 1), -2)
        self.refused(FULL_CHIPS, chip(-TOP - 1, 0), -2)


class Paths(ChangeCase):
    def test_numbers_count_from_zero(self):
        self.assertEqual(run(*SMALL)[3:], [[0], [1]])

    def test_listed_in_their_order(self):
        self.assertEqual(last(*SMALL, list_all()), SMALL_LISTED)

    def test_from_a_chip_to_itself(self):
        self.taken([chip(0, 1), chip(2, 3)], path(1, 1, 4, 5), [0], [0, 0, 2, 0, 1, 2, 3, 1, 1, 1, 4, 5])

    def test_the_same_path_twice(self):
        self.taken([chip(0, 1), path(0, 0, 4, 5)], path(0, 0, 4, 5), [1],
                   [0, 0, 1, 0, 1, 2, 0, 0, 4, 5, 0, 0, 4, 5])

    def test_both_ends(self):
        self.taken([chip(0, 1)], path(0, 0, 0, TOP), [0], [0, 0, 1, 0, 1, 1, 0, 0, 0, TOP])

    def test_d_and_e_alike(self):
        for same in (0, 1, TOP):
            self.taken([chip(0, 1)], path(0, 0, same, same), [0], [0, 0, 1, 0, 1, 1, 0, 0, same, same])

    def test_last_chip(self):
        self.taken(FULL_CHIPS[:2], path(1, 0, 2, 3), [0], [0, 0, 2, 0, 0, -1, 1, 1, 1, 0, 2, 3])

    def test_no_such_chip(self):
        for wrong in (-1, -2, 2, 16, LEAST_INT, GREATEST_INT):
            self.refused(SMALL, path(wrong, 0, 0, 1), -1)
            self.refused(SMALL, path(0, wrong, 0, 1), -1)
            self.refused(SMALL, path(wrong, wrong, 0, 1), -1)

    def test_no_chips(self):
        self.refused([], path(0, 0, 0, 0), -1)

    def test_outside(self):
        for d, e in ((-1, 0), (-1, -1), (0, TOP + 1), (TOP + 1, TOP + 1), (LEAST_INT, 0), (0, GREATEST_INT)):
            self.refused(SMALL, path(0, 1, d, e), -2)

    def test_d_above_e(self):
        for d, e in ((1, 0), (TOP, TOP - 1), (TOP, 0), (TOP + 1, 0), (0, -1)):
            self.refused(SMALL, path(0, 1, d, e), -2)

    def test_the_forty_eighth_and_the_one_after(self):
        self.assertEqual(run(*FULL_CHIPS, *FULL_PATHS)[16:], [[k] for k in range(48)])
        self.refused(FULL_CHIPS + FULL_PATHS, path(0, 1, 0, 0), -4)

    def test_there_is_room_again_behind_away(self):
        self.assertEqual(run(*FULL_CHIPS, *FULL_PATHS, away(20), path(0, 0, 0, 0), path(0, 0, 0, 0))[-2:],
                         [[47], [-4]])

    def test_the_order_of_the_refusals(self):
        self.refused(SMALL, path(2, 0, 1, 0), -1)
        self.refused(SMALL, path(0, 2, 1, 0), -1)
        full = FULL_CHIPS + FULL_PATHS
        self.refused(full, path(16, 0, 0, 0), -1)
        self.refused(full, path(0, -1, 0, 0), -1)
        self.refused(full, path(0, 1, 1, 0), -2)
        self.refused(full, path(0, 1, -1, TOP + 1), -2)
        self.refused(full, path(16, 16, 1, 0), -1)


class Bound(ChangeCase):
    def test_one_chip_alone_changes(self):
        self.taken(SMALL, bound(0, 20, 21), [0], [3, 4, 2, 20, 21, 7, 8] + SMALL_LISTED[7:])
        self.taken(SMALL, bound(1, -20, 21), [0], [3, 4, 2, -5, 6, -20, 21] + SMALL_LISTED[7:])

    def test_both_ends(self):
        self.taken([chip(1, 2)], bound(0, -TOP, TOP), [0], [0, 0, 1, -TOP, TOP, 0])

    def test_lo_and_hi_alike(self):
        for same in (-TOP, 0, TOP):
            self.taken([chip(1, 2)], bound(0, same, same), [0], [0, 0, 1, same, same, 0])

    def test_with_sixteen_chips(self):
        self.assertEqual(last(*FULL_CHIPS, bound(15, 1, 2)), [0])

    def test_no_such_chip(self):
        for wrong in (-1, -2, 2, LEAST_INT, GREATEST_INT):
            self.refused(SMALL, bound(wrong, 0, 1), -1)
        self.refused([], bound(0, 0, 1), -1)
        self.refused(FULL_CHIPS, bound(16, 0, 1), -1)

    def test_outside(self):
        for lo, hi in ((-TOP - 1, 0), (0, TOP + 1), (1, 0), (TOP + 1, TOP + 1), (-TOP - 1, -TOP - 1),
                       (LEAST_INT, GREATEST_INT)):
            self.refused(SMALL, bound(1, lo, hi), -2)

    def test_the_order_of_the_refusals(self):
        self.refused(SMALL, bound(2, 1, 0), -1)
        self.refused(SMALL, bound(-1, 0, TOP + 1), -1)


class Delay(ChangeCase):
    def test_one_path_alone_changes_and_keeps_its_chips(self):
        self.taken(SMALL, delay(0, 20, 21), [0], SMALL_LISTED[:8] + [0, 1, 20, 21, 1, 0, 11, 12])
        self.taken(SMALL, delay(1, 20, 21), [0], SMALL_LISTED[:8] + [0, 1, 9, 10, 1, 0, 20, 21])

    def test_both_ends(self):
        self.taken(SMALL, delay(0, 0, TOP), [0], SMALL_LISTED[:8] + [0, 1, 0, TOP, 1, 0, 11, 12])

    def test_d_and_e_alike(self):
        for same in (0, 1, TOP):
            self.taken(SMALL, delay(0, same, same), [0], SMALL_LISTED[:8] + [0, 1, same, same, 1, 0, 11, 12])

    def test_with_forty_eight_paths(self):
        self.assertEqual(last(*FULL_CHIPS, *FULL_PATHS, delay(47, 1, 2)), [0])

    def test_no_such_path(self):
        for wrong in (-1, -2, 2, LEAST_INT, GREATEST_INT):
            self.refused(SMALL, delay(wrong, 0, 1), -5)
        self.refused([], delay(0, 0, 1), -5)
        self.refused(FULL_CHIPS, delay(0, 0, 1), -5)
        self.refused(FULL_CHIPS + FULL_PATHS, delay(48, 0, 1), -5)

    def test_outside(self):
        for d, e in ((-1, 0), (-1, -1), (0, TOP + 1), (TOP + 1, TOP + 1), (1, 0), (LEAST_INT, GREATEST_INT)):
            self.refused(SMALL, delay(1, d, e), -2)

    def test_the_order_of_the_refusals(self):
        self.refused(SMALL, delay(2, 1, 0), -5)
        self.refused(SMALL, delay(-1, 0, TOP + 1), -5)


class Away(ChangeCase):
    def setUp(self):
        self.before = [chip(0, 9), chip(1, 8), path(0, 1, 1, 2), path(1, 0, 3, 4), path(0, 0, 5, 6)]
        self.head = [0, 0, 2, 0, 9, 1, 8]

    def test_those_behind_it_close_up(self):
        self.taken(self.before, away(0), [0], self.head + [2, 1, 0, 3, 4, 0, 0, 5, 6])
        self.taken(self.before, away(1), [0], self.head + [2, 0, 1, 1, 2, 0, 0, 5, 6])
        self.taken(self.before, away(2), [0], self.head + [2, 0, 1, 1, 2, 1, 0, 3, 4])

    def test_their_new_numbers_are_the_ones_that_calls_take(self):
        told = run(*self.before, away(0), delay(1, 7, 8), delay(2, 7, 8), list_all())
        self.assertEqual(told[-3:], [[0], [-5], self.head + [2, 1, 0, 3, 4, 0, 0, 7, 8]])

    def test_a_new_path_comes_last(self):
        self.taken(self.before + [away(0)], path(1, 1, 7, 8), [2],
                   self.head + [3, 1, 0, 3, 4, 0, 0, 5, 6, 1, 1, 7, 8])

    def test_until_none_is_left(self):
        self.assertEqual(run(*self.before, away(0), away(0), away(0), away(0), list_all())[-5:],
                         [[0], [0], [0], [-5], self.head + [0]])

    def test_no_such_path(self):
        for wrong in (-1, -2, -3, 3, LEAST_INT, GREATEST_INT):
            self.refused(self.before, away(wrong), -5)
        self.refused([], away(0), -5)
        self.refused(FULL_CHIPS + FULL_PATHS, away(48), -5)


class Clear(ChangeCase):
    def test_all_is_as_at_the_beginning(self):
        self.taken(SMALL, clear(), [0], [0, 0, 0, 0])
        self.taken(FULL_CHIPS + FULL_PATHS, clear(), [0], [0, 0, 0, 0])

    def test_of_nothing(self):
        self.taken([], clear(), [0], [0, 0, 0, 0])

    def test_numbers_count_from_zero_again(self):
        self.assertEqual(run(*SMALL, clear(), path(0, 0, 0, 0), chip(1, 2), path(0, 0, 3, 4), list_all())[-4:],
                         [[-1], [0], [0], [0, 0, 1, 1, 2, 1, 0, 0, 3, 4]])


class Shift(ChangeCase):
    def test_no_chips(self):
        for c in (0, 1, -1, TOP, 2 * TOP + 1, LEAST_INT, GREATEST_INT):
            self.taken([], shift(c), [0], [0, 0, 0, 0])
            self.taken([margins(3, 4)], shift(c), [0], [3, 4, 0, 0])

    def test_up_and_down(self):
        self.taken(SMALL, shift(10), [0], [3, 4, 2, 5, 16, 17, 18] + SMALL_LISTED[7:])
        self.taken(SMALL, shift(-10), [0], [3, 4, 2, -15, -4, -3, -2] + SMALL_LISTED[7:])
        self.taken(SMALL, shift(0), [0], SMALL_LISTED)

    def test_twice(self):
        self.taken(SMALL + [shift(10)], shift(-10), [0], SMALL_LISTED)
        self.taken(SMALL + [shift(10)], shift(5), [0], [3, 4, 2, 10, 21, 22, 23] + SMALL_LISTED[7:])

    def test_just_inside_and_just_outside(self):
        # The highest hi is 8 and the lowest lo is -5, in different chips.
        self.taken(SMALL, shift(TOP - 8), [0], [3, 4, 2, TOP - 13, TOP - 2, TOP - 1, TOP] + SMALL_LISTED[7:])
        self.refused(SMALL, shift(TOP - 7), -2)
        self.taken(SMALL, shift(5 - TOP), [0], [3, 4, 2, -TOP, 11 - TOP, 12 - TOP, 13 - TOP] + SMALL_LISTED[7:])
        self.refused(SMALL, shift(4 - TOP), -2)

    def test_one_chip_outside_is_enough(self):
        for place in range(16):
            high = [chip(0, 0)] * place + [chip(0, TOP)] + [chip(0, 0)] * (15 - place)
            self.refused(high, shift(1), -2)
            low = [chip(0, 0)] * place + [chip(-TOP, 0)] + [chip(0, 0)] * (15 - place)
            self.refused(low, shift(-1), -2)

    def test_from_one_end_to_the_other(self):
        self.taken([chip(-TOP, -TOP)], shift(2 * TOP), [0], [0, 0, 1, TOP, TOP, 0])
        self.refused([chip(-TOP, -TOP)], shift(2 * TOP + 1), -2)
        self.taken([chip(TOP, TOP)], shift(-2 * TOP), [0], [0, 0, 1, -TOP, -TOP, 0])
        self.refused([chip(TOP, TOP)], shift(-2 * TOP - 1), -2)
        self.taken([chip(-TOP, TOP)], shift(0), [0], [0, 0, 1, -TOP, TOP, 0])

    def test_far_outside(self):
        for c in (LEAST_INT, GREATEST_INT, -2 * TOP - 1, 2 * TOP + 1):
            self.refused(SMALL, shift(c), -2)

    def test_early_and_late_go_with_it(self):
        for plain, period in drawn_boards(60, 40):
            for c in (7, -1000, 90000000):
                told = plain.ask(early(period), late(period), shift(c), early(period), late(period))
                for before, behind in ((told[0], told[3]), (told[1], told[4])):
                    moved = before if before == [-8] else before[:1] + [time + c for time in before[1:]]
                    self.assertEqual(behind, moved, (plain, period, c))

    def test_what_was_feasible_stays_so(self):
        before = [chip(0, 5), chip(0, 5), path(0, 1, 0, 9)]
        self.assertEqual(run(*before, feasible(9), shift(-3), feasible(9), feasible(8), shift(3), feasible(8))[3:],
                         [[1], [0], [1], [0], [0], [0]])


class Listing(ChangeCase):
    def test_of_nothing(self):
        self.assertEqual(last(list_all()), [0, 0, 0, 0])

    def test_of_chips_alone(self):
        self.assertEqual(last(chip(-3, 2), list_all()), [0, 0, 1, -3, 2, 0])

    def test_of_all(self):
        self.assertEqual(last(*SMALL, list_all()), SMALL_LISTED)

    def test_it_changes_nothing(self):
        self.assertEqual(run(*SMALL, list_all(), list_all())[-2:], [SMALL_LISTED, SMALL_LISTED])

    def test_of_a_full_board(self):
        listed = [0, 0, 16]
        for k in range(16):
            listed += [-k, k]
        listed.append(48)
        for k in range(48):
            listed += [k % 16, (k + 1) % 16, k, 2 * k]
        self.assertEqual(last(*FULL_CHIPS, *FULL_PATHS, list_all()), listed)


if __name__ == "__main__":
    unittest.main()
