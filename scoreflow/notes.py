"""Texts: grammars written as rows, and read from them."""

from scoreflow.errors import NoText
from scoreflow.grammar import MOST_SYMBOLS, Grammar, is_symbol
from scoreflow.shares import share

FIRST_WORD = "start"
MOST_FIGURES = 60


def written(grammar):
    start = grammar.start()
    return "\n".join([f"{FIRST_WORD} {start}"] + [written_rule(rule) for rule in grammar.rules()])


def written_rule(rule):
    head = rule[0]
    top = rule[2][0]
    bottom = rule[2][1]
    body = " ".join(rule[1])
    return f"{head} {top}/{bottom}: {body}"


# All rows are read first: a row of no form is refused also where the other rows would make no grammar.
def read(text):
    rows = text.split("\n")
    start = read_start(rows[0])
    return Grammar(start, [read_rule(row) for row in rows[1:]])


def read_start(row):
    words = row.split(" ")
    if len(words) != 2 or words[0] != FIRST_WORD or not is_symbol(words[1]):
        raise NoText(f"{row!r} tells no start")
    return words[1]


def read_rule(row):
    words = row.split(" ")
    if len(words) < 3 or len(words) > 2 + MOST_SYMBOLS:
        raise NoText(f"{row!r} tells no rule")
    if not all([is_symbol(word) for word in words[:1] + words[2:]]) or not words[1].endswith(":"):
        raise NoText(f"{row!r} tells no rule")
    return (words[0], tuple(words[2:]), read_share(words[1][:-1]))


def read_share(text):
    figures = text.split("/")
    if len(figures) != 2 or not is_number(figures[0]) or not is_number(figures[1]):
        raise NoText(f"{text!r} is no share")
    found = (int(figures[0]), int(figures[1]))
    if share(found[0], found[1]) != found:
        raise NoText(f"{text!r} is not in lowest terms")
    return found


# Too many figures are told by their count alone: Python refuses to read very long numbers.
def is_number(text):
    if len(text) < 1 or len(text) > MOST_FIGURES or text[0] == "0":
        return False
    return all(["0" <= sign <= "9" for sign in text])
