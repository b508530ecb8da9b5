"""Sums within: what all trees of a head with the words of a stretch come to."""

from scoreflow.grammar import is_live_body
from scoreflow.rows import stretches
from scoreflow.shares import NOUGHT, ONE, added, sum_of_products, timed
from scoreflow.solving import solved_rows


# The sums at a stretch lean on those at shorter ones and, by steps, on one another.
class Sums:
    def __init__(self, grammar, row):
        live = grammar.live()
        rules = live_rules(grammar)
        self.grammar = grammar
        self.row = row
        self.known_heads = grammar.heads()
        self.branches = [rule for rule in rules if not is_step(rule, live)]
        self.chains = chains_of(live, [rule for rule in rules if is_step(rule, live)])
        self.known_sums = {}
        self.known_worths = {}
        for i, j in stretches(row):
            self.settle(i, j)

    def within(self, head, i, j):
        return self.known_sums.get((head, i, j), NOUGHT)

    def whole(self):
        return self.within(self.grammar.start(), 0, len(self.row))

    def settle(self, i, j):
        ends = self.ends_at(i, j)
        for head in self.chains:
            total = sum_of_products([(self.chains[head][last], ends[last]) for last in ends])
            if total != NOUGHT:
                self.known_sums[(head, i, j)] = total

    # What each head comes to by its branches alone, where that isn't nought.
    def ends_at(self, i, j):
        ends = {}
        for rule in self.branches:
            worth = self.worth_of_body(rule[1], i, j)
            if worth != NOUGHT:
                ends[rule[0]] = added(ends.get(rule[0], NOUGHT), timed(rule[2], worth))
        return ends

    def worth(self, symbol, i, j):
        if symbol in self.known_heads:
            return self.within(symbol, i, j)
        return ONE if j == i + 1 and self.row[i] == symbol else NOUGHT

    # Bodies with the same end share its worths: each is reckoned once for a stretch.
    def worth_of_body(self, body, i, j):
        if len(body) == 1:
            return self.worth(body[0], i, j)
        if (body, i, j) not in self.known_worths:
            self.known_worths[(body, i, j)] = self.sum_of_partings(body, i, j)
        return self.known_worths[(body, i, j)]

    def sum_of_partings(self, body, i, j):
        pairs = []
        for middle in range(i + 1, j - len(body) + 2):
            worth = self.worth(body[0], i, middle)
            if worth != NOUGHT:
                pairs.append((worth, self.worth_of_body(body[1:], middle, j)))
        return sum_of_products(pairs)


# The rules that stand in trees; all others are worth nought everywhere.
def live_rules(grammar):
    heads = grammar.heads()
    live = grammar.live()
    return [rule for rule in grammar.rules() if is_live_body(rule[1], heads, live)]


# A step leads from a head to one head over the same stretch; all other rules are branches.
def is_step(rule, heads):
    return len(rule[1]) == 1 and rule[1][0] in heads


# Tells for each head, and each head that is come to from it by steps, the shares of all rows of steps between them,
# added; there may be such rows without end. Among live heads the system always has an end: heads whose steps go
# round with all of their shares would have no other rule, so no row of words came of them.
def chains_of(heads, steps):
    straight = {}
    for rule in steps:
        straight[(rule[0], rule[1][0])] = rule[2]
    ways = []
    ends = []
    for head in heads:
        ways.append([straight.get((head, other), NOUGHT) for other in heads])
        ends.append([ONE if head == other else NOUGHT for other in heads])
    chains = {}
    for head, found in zip(heads, solved_rows(ways, ends)):
        chains[head] = dict(zip(heads, found))
    return chains
