"""What several test files need."""

import itertools
from fractions import Fraction

from scoreflow.grammar import Grammar


def pair(fraction):
    """A fraction of Python's own as the share that the program is to tell."""
    return (fraction.numerator, fraction.denominator)


def rules_of(text):
    """Rules from rows such as `S 1/2: a S`, so that a test's grammar can be read."""
    rules = []
    for line in text.strip().splitlines():
        left, body = line.split(":")
        head, written = left.split()
        rules.append((head, tuple(body.split()), pair(Fraction(written))))
    return rules


def grammar_of(start, text):
    return Grammar(start, rules_of(text))


def partings(i, j, many):
    """All ways of parting a stretch into so many stretches: lists of stretches."""
    for cuts in itertools.combinations(range(i + 1, j), many - 1):
        places = [i, *cuts, j]
        yield list(zip(places, places[1:]))


def stretches(row):
    for i in range(len(row)):
        for j in range(i + 1, len(row) + 1):
            yield i, j


def trees_at(grammar, row, head, i, j):
    """All trees of a head with the words of a stretch, one by one. Only for grammars without rings of steps."""
    heads = grammar.heads()
    for number, rule in enumerate(grammar.rules()):
        if rule[0] == head:
            for parted in partings(i, j, len(rule[1])):
                choices = []
                for symbol, (left, right) in zip(rule[1], parted):
                    if symbol in heads:
                        choices.append(list(trees_at(grammar, row, symbol, left, right)))
                    else:
                        choices.append([symbol] if row[left:right] == (symbol,) else [])
                for parts in itertools.product(*choices):
                    yield (number, parts)


class Numbers:
    """Numbers that look as if by chance, and are the same each time."""

    def __init__(self, seed):
        self.number = seed * 7919 + 104729

    def below(self, bound):
        self.number = (self.number * 6364136223846793005 + 1442695040888963407) % 2 ** 64
        return (self.number >> 33) % bound

    def one_of(self, things):
        return things[self.below(len(things))]


def made_grammar(seed, heads, words, steps=True):
    """A grammar with one to five rules for each head, bodies of one to four symbols; without steps, rules to one
    head lead to later heads alone, so that there are no rings of them."""
    numbers = Numbers(seed)
    rules = []
    for place, head in enumerate(heads):
        bodies = []
        for _ in range(1 + numbers.below(5)):
            length = numbers.one_of([1, 1, 1, 2, 2, 3, 4])
            symbols = heads + words
            if length == 1 and not steps:
                symbols = heads[place + 1:] + words
            body = tuple(numbers.one_of(symbols) for _ in range(length))
            if body not in bodies:
                bodies.append(body)
        weights = [1 + numbers.below(9) for _ in bodies]
        for body, weight in zip(bodies, weights):
            rules.append((head, body, pair(Fraction(weight, sum(weights)))))
    return Grammar(heads[0], rules)
