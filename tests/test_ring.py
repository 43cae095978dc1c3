"""Point 14: ring, which tells the shortest and least ring of rules that no row can keep."""

import random
import unittest

from helper import GREATEST_INT, LEAST_INT, LONGEST, TOP, Plain
from helper import away, check, chip, delay, drawn_boards, drawn_full_board, feasible, list_all, margins
from helper import last, path, ring, run


class RingCase(unittest.TestCase):
    def told(self, before, period, rules, total):
        expected = [len(rules)]
        for rule in rules:
            expected += rule
        self.assertEqual(run(*before, ring(period), feasible(period))[-2:],
                         [expected + [total], [0 if rules else 1]], (before, period))

    def none_told(self, before, period):
        self.told(before, period, [], 0)


class Refusals(RingCase):
    def test_periods_outside(self):
        for period in (-1, LONGEST + 1, LEAST_INT, GREATEST_INT):
            for before in ([], [margins(0, 1), chip(0, 0), path(0, 0, 0, 0)]):
                told = run(*before, list_all(), ring(period), list_all())
                self.assertEqual(told[-2], [-2])
                self.assertEqual(told[-1], told[-3])

    def test_periods_at_both_ends(self):
        before = [margins(0, 1), chip(0, 0), path(0, 0, 0, 0)]
        for period in (0, LONGEST):
            self.none_told([], period)
            self.none_told([chip(-1, 1)], period)
            self.told(before, period, [[3, 0]], -1)

    def test_it_changes_nothing(self):
        before = [margins(0, 1), chip(0, 0), path(0, 0, 0, 5)]
        told = run(*before, list_all(), ring(0), list_all())
        self.assertEqual(told[-1], told[-3])


class NoRing(RingCase):
    def test_no_chips_and_no_paths(self):
        self.assertEqual(last(ring(0)), [0, 0])
        self.assertEqual(last(margins(TOP, TOP), ring(0)), [0, 0])

    def test_chips_alone(self):
        self.none_told([chip(-3, 4), chip(5, 5), chip(-TOP, -TOP)], 0)

    def test_a_ring_whose_sum_is_zero_is_none(self):
        self.none_told([margins(2, 3), chip(0, 0), path(0, 0, 3, 8)], 10)
        self.none_told([margins(0, 2), chip(5, 5), chip(3, 3), path(0, 1, 0, 0), path(1, 0, 4, 4)], 4)


class OneRule(RingCase):
    def test_the_setup_rule_of_a_path_from_a_chip_to_itself(self):
        self.told([margins(2, 3), chip(-5, 5), path(0, 0, 3, 8)], 9, [[2, 0]], -1)
        self.told([margins(2, 3), chip(-5, 5), path(0, 0, 3, 8)], 0, [[2, 0]], -10)

    def test_the_hold_rule_of_a_path_from_a_chip_to_itself(self):
        self.told([margins(2, 3), chip(-5, 5), path(0, 0, 1, 8)], 10, [[3, 0]], -2)

    def test_the_least_of_several(self):
        before = [margins(0, 1), chip(0, 0), chip(0, 0), path(0, 1, 9, 9), path(1, 1, 9, 9), path(1, 1, 0, 9),
                  path(0, 0, 0, 9)]
        # Path 1's setup rule comes ahead of path 2's hold rule, though its sum is nearer to 0.
        self.told(before, 8, [[2, 1]], -1)
        self.told(before, 9, [[3, 2]], -1)
        self.told(before + [away(2)], 9, [[3, 2]], -1)
        self.told(before + [delay(2, 1, 9)], 9, [[3, 3]], -1)

    def test_one_rule_is_told_ahead_of_two_with_lesser_numbers(self):
        before = [margins(0, 0), chip(0, 50), chip(0, 50), path(0, 1, 0, 30), path(1, 1, 40, 40)]
        self.told(before, 29, [[2, 1]], -11)
        self.told(before + [away(1)], 29, [[2, 0], [3, 0]], -1)


class TwoRules(RingCase):
    def test_both_rules_of_one_path(self):
        before = [margins(1, 2), chip(0, 20), chip(0, 20), path(0, 1, 0, 12)]
        self.told(before, 14, [[2, 0], [3, 0]], -1)
        self.none_told(before, 15)

    def test_the_setup_rules_of_two_paths(self):
        before = [margins(1, 0), chip(0, 90), chip(0, 90), path(0, 1, 20, 20), path(1, 0, 9, 9)]
        self.told(before, 15, [[2, 0], [2, 1]], -1)

    def test_the_hold_rules_of_two_paths(self):
        before = [margins(0, 5), chip(0, 90), chip(0, 90), path(0, 1, 2, 2), path(1, 0, 7, 7)]
        self.told(before, 50, [[3, 0], [3, 1]], -1)

    def test_the_least_numbers_not_the_least_sum(self):
        before = [margins(0, 5), chip(0, 90), chip(0, 90), path(0, 1, 4, 9), path(0, 1, 0, 9), path(1, 0, 4, 9),
                  path(1, 0, 0, 9)]
        self.told(before, 1000, [[3, 0], [3, 2]], -2)
        self.told(before + [delay(2, 6, 9)], 1000, [[3, 0], [3, 3]], -6)
        self.told(before + [delay(0, 9, 9)], 1000, [[3, 0], [3, 3]], -1)
        self.told(before + [delay(0, 9, 9), delay(3, 1, 9)], 1000, [[3, 1], [3, 2]], -6)


class ThroughTheZero(RingCase):
    def test_bounds_and_a_setup_rule(self):
        # t0 is at least 10, t1 at most 5: 10 + 20 is at most 5 + P from a period of 25 on.
        before = [chip(10, 20), chip(0, 5), path(0, 1, 0, 20)]
        self.told(before, 24, [[1, 0], [0, 1], [2, 0]], -1)
        self.none_told(before, 25)

    def test_bounds_and_a_hold_rule(self):
        before = [margins(0, 3), chip(0, 5), chip(4, 9), path(0, 1, 1, 1)]
        self.told(before, 50, [[0, 0], [3, 0], [1, 1]], -1)

    def test_it_begins_with_its_least_number(self):
        before = [margins(0, 3), chip(4, 9), chip(0, 5), path(1, 0, 1, 1)]
        self.told(before, 50, [[1, 0], [0, 1], [3, 0]], -1)

    def test_four_rules(self):
        before = [chip(10, 50), chip(0, 90), chip(-90, 20), path(0, 1, 50, 50), path(1, 2, 60, 60)]
        self.told(before, 49, [[1, 0], [0, 2], [2, 1], [2, 0]], -2)
        self.none_told(before, 50)


class Longest(RingCase):
    def test_all_chips_and_the_zero(self):
        # Each hold rule brings the next chip's time down by 1, from at most 0; the last may be -14 at least.
        before = [margins(0, 2)] + [chip(-TOP, 0)] + [chip(-TOP, TOP)] * 14 + [chip(-14, TOP)]
        before += [path(k, k + 1, 1, 1) for k in range(15)]
        self.told(before, LONGEST, [[0, 0]] + [[3, k] for k in range(15)] + [[1, 15]], -1)
        self.none_told(before + [delay(7, 2, 2)], LONGEST)

    def test_all_chips_without_the_zero(self):
        before = [margins(0, 2)] + [chip(-TOP, TOP)] * 16 + [path(k, (k + 1) % 16, 2, 2) for k in range(16)]
        self.none_told(before, LONGEST)
        self.told(before + [delay(9, 1, 1)], LONGEST, [[3, k] for k in range(16)], -1)

    def test_all_chips_by_setup_rules(self):
        before = [chip(-TOP, TOP)] * 16 + [path(k, (k + 1) % 16, TOP, TOP) for k in range(16)]
        backwards = [[2, 0]] + [[2, k] for k in range(15, 0, -1)]
        self.told(before, TOP - 1, backwards, -16)
        self.none_told(before, TOP)

    def test_the_greatest_sums(self):
        before = [margins(TOP, TOP), chip(TOP, TOP), chip(-TOP, -TOP), path(0, 1, 0, TOP)]
        self.told(before, 0, [[2, 0], [3, 0]], -3 * TOP)
        self.told(before, 3 * TOP, [[1, 0], [0, 1], [2, 0]], -TOP)
        self.none_told(before, 4 * TOP)


def all_rings(rules, length):
    """Every ring of as many rules, as places in the rules, in order: the first is the least."""
    begun = [[number] for number in range(len(rules))]
    for turn in range(length - 1):
        begun = [way + [number] for way in begun for number, rule in enumerate(rules) if rules[way[-1]][3] == rule[2]]
    return [way for way in begun
            if rules[way[-1]][3] == rules[way[0]][2] and sum(rules[number][4] for number in way) < 0]


class AgainstAllRings(RingCase):
    def agree(self, plain, period):
        """Goes through all rings of one rule, of two and so on; gives back how many rules the told ring has."""
        rules = plain.rules(period)
        for length in range(1, len(plain.chips) + 2):
            rings = all_rings(rules, length)
            if rings:
                found = [list(rules[number][:2]) for number in min(rings)]
                self.told(plain.calls(), period, found, sum(rules[number][4] for number in min(rings)))
                return length
        self.none_told(plain.calls(), period)
        return 0

    def test_small_boards(self):
        counts = {}
        for plain, period in drawn_boards(400, 20):
            length = self.agree(plain, period)
            counts[length] = counts.get(length, 0) + 1
            self.assertEqual(length == 0, plain.right_rows(period) != [], plain)
        self.assertTrue(all(counts.get(length, 0) > 20 for length in range(4)), counts)

    def test_longer_rings(self):
        draw = random.Random(21)
        counts = {}
        for k in range(300):
            chips = [(draw.randint(-9, -5), draw.randint(5, 9)) for each in range(4)]
            ends = draw.sample([(0, 1), (1, 2), (2, 3), (3, 0), (0, 2), (3, 1), (0, 1), (2, 3)], draw.randint(4, 8))
            delays = [draw.choice((1, 1, 2, 2, 2, 3, 4)) for each in ends]
            paths = [(i, j, d, d) for (i, j), d in zip(ends, delays)]
            length = self.agree(Plain(0, 2, chips, paths), draw.randint(2, 12))
            counts[length] = counts.get(length, 0) + 1
        self.assertTrue(all(counts.get(length, 0) > 10 for length in (0, 2, 3, 4)), counts)

    def test_bounds_far_apart(self):
        draw = random.Random(22)
        for k in range(100):
            chips = [(draw.randint(-TOP, 0), draw.randint(0, TOP)) for each in range(3)]
            paths = [(draw.randrange(3), draw.randrange(3), draw.randint(0, TOP // 2), draw.randint(TOP // 2, TOP))
                     for each in range(5)]
            self.agree(Plain(draw.randint(0, TOP), draw.randint(0, TOP), chips, paths), draw.randint(0, 4 * TOP))


class FullBoards(RingCase):
    def test_what_is_told_is_a_ring(self):
        draw = random.Random(23)
        counts = {}
        for scale in (10, 1000, 30000000):
            for tight in (0, 3, 5, 7, 8, 10):
                for k in range(4):
                    length = self.is_ring(drawn_full_board(draw, scale, tight), 3 * scale)
                    counts[length] = counts.get(length, 0) + 1
        self.assertTrue(all(counts.get(length, 0) > 3 for length in (0, 2, 3)), counts)

    def is_ring(self, plain, period):
        can_be, answer = plain.ask(feasible(period), ring(period))
        count = answer[0]
        if can_be == [1]:
            self.assertEqual(answer, [0, 0])
            return 0
        told = [tuple(answer[1 + 2 * k:3 + 2 * k]) for k in range(count)]
        self.assertEqual(len(answer), 2 * count + 2)
        rules = {(kind, number): (begin, end, limit) for kind, number, begin, end, limit in plain.rules(period)}
        for before, behind in zip(told, told[1:] + told[:1]):
            self.assertEqual(rules[before][1], rules[behind][0], (plain, answer))
        self.assertEqual(sum(rules[rule][2] for rule in told), answer[-1])
        self.assertLess(answer[-1], 0)
        order = [rule[:2] for rule in plain.rules(period)]
        self.assertEqual(min(told, key=order.index), told[0])
        return count

    def test_every_row_misses_a_rule_of_it(self):
        draw = random.Random(24)
        plain = drawn_full_board(draw, 1000, 8)
        answer = plain.ask(ring(2000))[0]
        told = [answer[1 + 2 * k:3 + 2 * k] for k in range(answer[0])]
        self.assertGreater(len(told), 0)
        for turn in range(50):
            missed = plain.ask(check(2000, [draw.randint(-2000, 2000) for k in range(16)]))[0]
            pairs = [missed[1 + 2 * k:3 + 2 * k] for k in range(missed[0])]
            self.assertTrue(any(rule in pairs for rule in told))


if __name__ == "__main__":
    unittest.main()
