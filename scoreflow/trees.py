"""Trees: (rule, parts), a rule's number and one part for each symbol of its body."""

from scoreflow.shares import ONE, timed


def head_of(grammar, tree):
    return grammar.rules()[tree[0]][0]


# What is still to be gone through waits in a list: trees may lie deeper than calls may.
def words_of(grammar, tree):
    words = []
    waiting = [tree]
    while waiting:
        part = waiting.pop()
        if isinstance(part, str):
            words.append(part)
        else:
            waiting.extend(list(reversed(part[1])))
    return tuple(words)


def share_of(grammar, tree):
    rules = grammar.rules()
    product = ONE
    waiting = [tree]
    while waiting:
        part = waiting.pop()
        product = timed(product, rules[part[0]][2])
        waiting.extend([inner for inner in part[1] if not isinstance(inner, str)])
    return product


def is_tree(grammar, thing):
    rules = grammar.rules()
    heads = grammar.heads()
    if not fits_rule(rules, thing):
        return False
    waiting = due_parts(rules, thing)
    while waiting:
        due = waiting.pop()
        if due[0] in heads:
            if not fits_rule(rules, due[1]) or rules[due[1][0]][0] != due[0]:
                return False
            waiting.extend(due_parts(rules, due[1]))
        elif due[1] != due[0]:
            return False
    return True


# Only of the thing itself: whether its parts are the due ones is asked one by one.
def fits_rule(rules, thing):
    if not isinstance(thing, tuple) or len(thing) != 2:
        return False
    if thing[0] < 0 or thing[0] >= len(rules):
        return False
    return isinstance(thing[1], tuple) and len(thing[1]) == len(rules[thing[0]][1])


def due_parts(rules, thing):
    return list(zip(rules[thing[0]][1], thing[1]))
