"""Least sums of bounds over walks, in which each rule begins where the one before it ends.

A walk's sum bounds how much later its last place may be than its first, so the least sum from one place to another
is the greatest difference of their times in all right rows. There are no least sums just where there is a ring.
"""

from clocktimes.rules import Rule


def turned(rules):
    return [Rule(rule.kind, rule.number, rule.end, rule.begin, rule.bound) for rule in rules]


# Gives back whether some sum became less.
def lessen(sums, rules):
    lessened = False
    for rule in rules:
        so_far = sums[rule.begin]
        if so_far is not None:
            total = so_far + rule.bound
            if sums[rule.end] is None or total < sums[rule.end]:
                sums[rule.end] = total
                lessened = True
    return lessened


# By place, the least sum of the walks from the start to it; None if there is a ring.
# Every place is reached, since each chip has a rule from the zero and one to it.
def least_sums(rules, zero, start):
    places = zero + 1
    sums = [None] * places
    sums[start] = 0
    # Without a ring no least walk comes to a place twice, so the last round has nothing left to lessen.
    for turn in range(places):
        if not lessen(sums, rules):
            return sums
    return None
