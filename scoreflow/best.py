"""Best trees: the greatest shares of trees, and trees that have them."""

from scoreflow.errors import NoTree
from scoreflow.rows import stretches
from scoreflow.shares import NOUGHT, ONE, is_less, timed


# Keeps for each head and stretch a pair, the greatest share and a tree that has it; likewise for bodies, with the
# parts that their symbols get.
class Bests:
    def __init__(self, grammar, row):
        self.row = row
        self.known_rules = grammar.rules()
        self.known_heads = grammar.heads()
        self.known_bests = {}
        self.known_partings = {}
        for i, j in stretches(row):
            self.try_rules(i, j)

    def best(self, head, i, j):
        return self.known_bests.get((head, i, j), (NOUGHT, None))

    # A rule to one head leans on a head at the same stretch: so the rules are tried again until no share has grown.
    # That has an end: going round comes to no greater share, since no rule's share is above 1.
    def try_rules(self, i, j):
        grown = True
        while grown:
            grown = False
            for number in range(len(self.known_rules)):
                grown = self.try_rule(number, i, j) or grown

    def try_rule(self, number, i, j):
        rule = self.known_rules[number]
        parting = self.best_parting(rule[1], i, j)
        product = timed(rule[2], parting[0])
        if not is_less(self.best(rule[0], i, j)[0], product):
            return False
        self.known_bests[(rule[0], i, j)] = (product, (number, parting[1]))
        return True

    def best_parting(self, body, i, j):
        if len(body) == 1:
            only = self.best_part(body[0], i, j)
            return (only[0], (only[1],))
        if (body, i, j) not in self.known_partings:
            self.known_partings[(body, i, j)] = self.best_of_partings(body, i, j)
        return self.known_partings[(body, i, j)]

    def best_of_partings(self, body, i, j):
        best = (NOUGHT, ())
        for middle in range(i + 1, j - len(body) + 2):
            first = self.best_part(body[0], i, middle)
            rest = self.best_parting(body[1:], middle, j)
            product = timed(first[0], rest[0])
            if is_less(best[0], product):
                best = (product, (first[1],) + rest[1])
        return best

    def best_part(self, symbol, i, j):
        if symbol in self.known_heads:
            return self.best(symbol, i, j)
        return (ONE if self.row[i:j] == (symbol,) else NOUGHT, symbol)


def bounds(grammar, row):
    bests = Bests(grammar, row)
    found = {}
    for head in grammar.heads():
        for i, j in stretches(row):
            found[(head, i, j)] = bests.best(head, i, j)[0]
    return found


def best_tree(grammar, row):
    found = Bests(grammar, row).best(grammar.start(), 0, len(row))
    if found[0] == NOUGHT:
        raise NoTree("no tree of the start has the words of the row")
    return found[1]
