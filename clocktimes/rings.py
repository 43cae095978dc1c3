"""The ring that is told where no row is right.

It is found by sums of walks to a goal: sums[place] is the least sum of all walks of a given number of rules from the
place to the goal, None if there is no such walk. For each goal a table keeps these sums, by the number of rules.
"""


def sums_at_goal(places, goal):
    sums = [None] * places
    sums[goal] = 0
    return sums


# The sums of the walks that have one rule more, ahead of the walks of these sums.
def with_one_more(sums, rules):
    longer = [None] * len(sums)
    for rule in rules:
        rest = sums[rule.end]
        if rest is not None:
            total = rule.bound + rest
            if longer[rule.begin] is None or total < longer[rule.begin]:
                longer[rule.begin] = total
    return longer


# Whether the rule, with the least walk behind it, comes to the goal of these sums with a sum below 0.
def closes(rule, sums, so_far):
    rest = sums[rule.end]
    return rest is not None and so_far + rule.bound + rest < 0


# The rules that begin a ring of as many rules as the tables are long. Each has its own beginning as its goal.
def beginnings(rules, tables):
    return [rule for rule in rules if closes(rule, tables[rule.begin][-1], 0)]


def ways_on(rules, where, sums, so_far):
    return [rule for rule in rules if rule.begin == where and closes(rule, sums, so_far)]


# From its first rule on, each time the least rule behind which the ring can still be closed.
def ring_from(first, rules, table):
    ring = [first]
    so_far = first.bound
    for sums in reversed(table[:-1]):
        rule = ways_on(rules, ring[-1].end, sums, so_far)[0]
        ring.append(rule)
        so_far += rule.bound
    return ring


# The rules of the ring that is told, in its order; none if there is no ring.
def least_ring(rules, zero):
    places = zero + 1
    tables = [[sums_at_goal(places, goal)] for goal in range(places)]
    # A ring that comes to a place twice parts into two, one of which is a ring: the shortest comes to each once.
    for length in range(places):
        firsts = beginnings(rules, tables)
        if firsts != []:
            return ring_from(firsts[0], rules, tables[firsts[0].begin])
        tables = [table + [with_one_more(table[-1], rules)] for table in tables]
    return []
