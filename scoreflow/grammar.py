"""Grammars: rules with shares, a start, and the heads of which rows of words come."""

from scoreflow.errors import NoGrammar
from scoreflow.shares import NOUGHT, ONE, added

MOST_RULES = 30
MOST_SYMBOLS = 4
MOST_LETTERS = 8


# The lists that it keeps are its own, and those that it tells are new: others may change theirs.
class Grammar:
    def __init__(self, start, rules):
        check_rules(rules)
        self.first = start
        self.kept_rules = list(rules)
        self.kept_heads = heads_of(rules)
        check_start(start, self.kept_heads)
        check_sums(self.kept_heads, rules)
        self.kept_live = live_of(self.kept_heads, rules)

    def start(self):
        return self.first

    def rules(self):
        return list(self.kept_rules)

    def heads(self):
        return list(self.kept_heads)

    def live(self):
        return list(self.kept_live)


def check_rules(rules):
    if len(rules) < 1 or len(rules) > MOST_RULES:
        raise NoGrammar("a grammar has one to thirty rules")
    seen = {}
    for rule in rules:
        check_rule(rule)
        if (rule[0], rule[1]) in seen:
            raise NoGrammar("two rules have the same head and the same body")
        seen[(rule[0], rule[1])] = True


def check_rule(rule):
    check_symbol(rule[0])
    if len(rule[1]) < 1 or len(rule[1]) > MOST_SYMBOLS:
        raise NoGrammar("a body has one to four symbols")
    for symbol in rule[1]:
        check_symbol(symbol)
    if rule[2] == NOUGHT:
        raise NoGrammar("a rule's share is nought")


def check_symbol(text):
    if not is_symbol(text):
        raise NoGrammar(f"{text!r} is no symbol")


def is_symbol(text):
    return 1 <= len(text) <= MOST_LETTERS and all([is_letter(sign) for sign in text])


def is_letter(sign):
    return "a" <= sign <= "z" or "A" <= sign <= "Z"


# The heads are symbols by now: a start that is no symbol is none of them.
def check_start(start, heads):
    if start not in heads:
        raise NoGrammar(f"the start {start!r} heads no rule")


def check_sums(heads, rules):
    for head in heads:
        total = NOUGHT
        for rule in rules:
            if rule[0] == head:
                total = added(total, rule[2])
        if total != ONE:
            raise NoGrammar(f"the shares of {head} don't add up to 1")


def heads_of(rules):
    heads = []
    for rule in rules:
        if rule[0] not in heads:
            heads.append(rule[0])
    return heads


# A head may be live by way of heads that are found live later only: so all are asked again until none is new.
def live_of(heads, rules):
    live = []
    grown = True
    while grown:
        found = [head for head in heads if has_live_body(head, rules, heads, live)]
        grown = len(found) > len(live)
        live = found
    return live


def has_live_body(head, rules, heads, live):
    return any([rule[0] == head and is_live_body(rule[1], heads, live) for rule in rules])


def is_live_body(body, heads, live):
    return all([symbol in live or symbol not in heads for symbol in body])
