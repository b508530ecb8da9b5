"""Sums beyond: what the trees of a row come to round a head's stretch; how often heads and rules stand in them."""

from scoreflow.errors import NoTree
from scoreflow.rows import stretches
from scoreflow.shares import NOUGHT, ONE, parted, sum_of_products, timed
from scoreflow.sums import Sums


# What lies beyond a head is handed down to the bodies of its rules, and from a body to its first symbol and to the
# rest: all to shorter stretches, but for steps. So the longer stretches come first.
class Parts:
    def __init__(self, grammar, row):
        self.sums = Sums(grammar, row)
        if self.sums.whole() == NOUGHT:
            raise NoTree("no tree of the start has the words of the row")
        self.known_rules = grammar.rules()
        self.known_beyonds = {}
        self.spans = stretches(row)
        self.handed = {}
        for span in self.spans:
            self.handed[span] = {}
        self.hand((grammar.start(),), 0, len(row), (ONE, ONE))
        for i, j in reversed(self.spans):
            self.hand_to_heads(i, j)
            self.hand_to_bodies(i, j)
            self.hand_within_bodies(i, j)

    def beyond(self, head, i, j):
        return self.known_beyonds.get((head, i, j), NOUGHT)

    def part(self, head, i, j):
        return parted(timed(self.sums.within(head, i, j), self.beyond(head, i, j)), self.sums.whole())

    def uses(self, rule):
        head = self.known_rules[rule][0]
        body = self.known_rules[rule][1]
        pairs = [(self.beyond(head, i, j), self.sums.worth_of_body(body, i, j)) for i, j in self.spans]
        return parted(timed(self.known_rules[rule][2], sum_of_products(pairs)), self.sums.whole())

    # A head is handed things as a body of one symbol. Words are handed nothing: nothing is asked of them.
    def hand(self, body, i, j, pair):
        if NOUGHT not in pair and (len(body) > 1 or body[0] in self.sums.chains):
            self.handed[(i, j)].setdefault(body, []).append(pair)

    # What a head is handed goes on by rows of steps, of which there may be some without end, to all that it leads to.
    def hand_to_heads(self, i, j):
        bodies = self.handed[(i, j)]
        chains = self.sums.chains
        firsts = {}
        for head in chains:
            firsts[head] = sum_of_products(bodies.get((head,), []))
        for head in chains:
            self.known_beyonds[(head, i, j)] = sum_of_products([(firsts[one], chains[one][head]) for one in chains])

    def hand_to_bodies(self, i, j):
        for rule in self.sums.branches:
            self.hand(rule[1], i, j, (self.beyond(rule[0], i, j), rule[2]))

    def hand_within_bodies(self, i, j):
        bodies = self.handed[(i, j)]
        for body in [known for known in bodies if len(known) > 1]:
            total = sum_of_products(bodies[body])
            for middle in range(i + 1, j - len(body) + 2):
                self.hand(body[:1], i, middle, (total, self.sums.worth_of_body(body[1:], middle, j)))
                self.hand(body[1:], middle, j, (total, self.sums.worth(body[0], i, middle)))
