"""What several test files need."""

import itertools
import unittest
from fractions import Fraction

from scoreflow.errors import NoEnd, NoGrammar, NoShare, NoText, NoTree, ScoreError
from scoreflow.grammar import Grammar


class Case(unittest.TestCase):
    def assert_share(self, told):
        self.assertIs(type(told), tuple)
        self.assertEqual([type(number) for number in told], [int, int])
        self.assertGreaterEqual(told[0], 0)
        self.assertEqual(pair(Fraction(*told)), told)

    def assert_refusal(self, refusal, asked, *handed):
        """It is refused with just this refusal, which is none of the others."""
        with self.assertRaises(refusal, msg=handed) as taken:
            asked(*handed)
        self.assertIsInstance(taken.exception, ScoreError)
        self.assertIsInstance(taken.exception, ValueError)
        others = {NoShare, NoEnd, NoGrammar, NoTree, NoText} - {refusal}
        self.assertNotIsInstance(taken.exception, tuple(others), handed)


def pair(fraction):
    """A fraction of Python's own as the share that the program is to tell."""
    return (fraction.numerator, fraction.denominator)


def rules_of(text):
    """Rules from rows such as `S 1/2: a S`, so that a test's grammar can be read."""
    rules = []
    for line in text.strip().splitlines():
        left, body = line.split(":")
        head, written = left.split()
        rules.append((head, tuple(body.split()), pair(Fraction(written))))
    return rules


def grammar_of(start, text):
    return Grammar(start, rules_of(text))


def partings(i, j, many):
    """All ways of parting a stretch into so many stretches: lists of stretches."""
    for cuts in itertools.combinations(range(i + 1, j), many - 1):
        places = [i, *cuts, j]
        yield list(zip(places, places[1:]))


def stretches(row):
    for i in range(len(row)):
        for j in range(i + 1, len(row) + 1):
            yield i, j


def trees_at(grammar, row, head, i, j, most=99, gone=0):
    """All trees of a head with the words of a stretch, one by one, with at most so many rules to one head in a row
    over the same stretch. Where there are rings, that is to be few, and these are not all trees."""
    heads = grammar.heads()
    for number, rule in enumerate(grammar.rules()):
        is_step = len(rule[1]) == 1 and rule[1][0] in heads
        if rule[0] == head and not (is_step and gone == most):
            for parted in partings(i, j, len(rule[1])):
                choices = []
                for symbol, (left, right) in zip(rule[1], parted):
                    if symbol in heads:
                        now = gone + 1 if is_step else 0
                        choices.append(list(trees_at(grammar, row, symbol, left, right, most, now)))
                    else:
                        choices.append([symbol] if row[left:right] == (symbol,) else [])
                for parts in itertools.product(*choices):
                    yield (number, parts)


def worth_of(sums, grammar, row, symbol, i, j):
    """A symbol's worth by the words of [9], of what the program tells of its heads."""
    if symbol in grammar.heads():
        return Fraction(*sums.within(symbol, i, j))
    return Fraction(1 if row[i:j] == (symbol,) else 0)


def nodes_of(tree, i):
    """A tree's own rule and all rules within it, each with its stretch, where the tree begins at place i."""
    inner, at = [], i
    for part in tree[1]:
        if isinstance(part, str):
            at += 1
        else:
            inner += nodes_of(part, at)
            at = inner[-1][2]
    return inner + [(tree[0], i, at)]


def sums_from_below(heads, rules, row, rounds):
    """All sums within, from nought on, put into their rules again and again: the least ones are come near to. The
    rules' shares are floats here."""
    known = {}
    for i, j in sorted(stretches(row), key=lambda stretch: stretch[1] - stretch[0]):
        steps, fixed = [], dict.fromkeys(heads, 0.0)
        for head, body, share in rules:
            if len(body) == 1 and body[0] in heads:
                steps.append((head, body[0], share))
            for parted in partings(i, j, len(body)) if len(body) > 1 or body[0] not in heads else ():
                product = share
                for symbol, (left, right) in zip(body, parted):
                    leaf = 1.0 if row[left:right] == (symbol,) else 0.0
                    product *= known[symbol, left, right] if symbol in heads else leaf
                fixed[head] += product
        now = dict.fromkeys(heads, 0.0)
        for _ in range(rounds):
            later = dict(fixed)
            for head, other, share in steps:
                later[head] += share * now[other]
            now = later
        known.update({(head, i, j): now[head] for head in heads})
    return known


class Numbers:
    """Numbers that look as if by chance, and are the same each time."""

    def __init__(self, seed):
        self.number = seed * 7919 + 104729

    def below(self, bound):
        self.number = (self.number * 6364136223846793005 + 1442695040888963407) % 2 ** 64
        return (self.number >> 33) % bound

    def one_of(self, things):
        return things[self.below(len(things))]


def made_grammar(seed, heads, words, steps=True):
    """A grammar with one to five rules for each head, bodies of one to four symbols; without steps, rules to one
    head lead to later heads alone, so that there are no rings of them."""
    numbers = Numbers(seed)
    rules = []
    for place, head in enumerate(heads):
        bodies = []
        for _ in range(1 + numbers.below(5)):
            length = numbers.one_of([1, 1, 1, 2, 2, 3, 4])
            symbols = heads + words
            if length == 1 and not steps:
                symbols = heads[place + 1:] + words
            body = tuple(numbers.one_of(symbols) for _ in range(length))
            if body not in bodies:
                bodies.append(body)
        weights = [1 + numbers.below(9) for _ in bodies]
        for body, weight in zip(bodies, weights):
            rules.append((head, body, pair(Fraction(weight, sum(weights)))))
    return Grammar(heads[0], rules)


def made_row(seed, length, symbols):
    numbers = Numbers(seed)
    return tuple(numbers.one_of(symbols) for _ in range(length))
