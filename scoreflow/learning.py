"""Learning: how likely counted rows are, and grammars that make them no less likely."""

from scoreflow.grammar import Grammar
from scoreflow.parts import Parts
from scoreflow.shares import NOUGHT, ONE, added, parted, timed
from scoreflow.sums import Sums


def likely(grammar, counted):
    product = ONE
    for row, many in counted:
        whole = Sums(grammar, row).whole()
        for k in range(many):
            product = timed(product, whole)
    return product


def learnt(grammar, counted):
    rules = grammar.rules()
    counts = counts_of(grammar, counted)
    sums = sums_by_head(rules, counts)
    found = []
    for rule, count in zip(rules, counts):
        if sums[rule[0]] == NOUGHT:
            found.append(rule)
        elif count != NOUGHT:
            found.append((rule[0], rule[1], parted(count, sums[rule[0]])))
    return Grammar(grammar.start(), found)


def counts_of(grammar, counted):
    counts = [NOUGHT for rule in grammar.rules()]
    for row, many in counted:
        parts = Parts(grammar, row)
        counts = [added(count, timed((many, 1), parts.uses(number))) for number, count in enumerate(counts)]
    return counts


def sums_by_head(rules, counts):
    sums = {}
    for rule, count in zip(rules, counts):
        sums[rule[0]] = added(sums.get(rule[0], NOUGHT), count)
    return sums
