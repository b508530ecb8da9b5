"""What the document says over the whole program: point [1], rows of ten words, and that nothing that is reckoned of a
grammar is refused with NoEnd."""

import copy
import unittest
from fractions import Fraction

from helping import grammar_of, made_grammar, made_row, pair, rules_of, stretches
from scoreflow.best import best_tree, bounds
from scoreflow.errors import NoTree
from scoreflow.grammar import Grammar
from scoreflow.learning import learnt, likely
from scoreflow.notes import read, written
from scoreflow.parts import Parts
from scoreflow.solving import solved
from scoreflow.sums import Sums
from scoreflow.trees import head_of, is_tree, share_of, words_of

NOUGHT = (0, 1)
ROW = ("a", "b", "a", "a", "b", "b", "a", "b", "a", "b")
GRAMMARS = [
    "S 1/2: S S\nS 1/4: a\nS 1/4: b",
    "S 1/4: S T\nS 1/2: T\nS 1/4: a\nT 1/3: S\nT 2/3: b",
    "S 1/6: S\nS 1/6: A S B\nS 1/6: A S\nS 1/6: N\nS 1/3: B\nA 1/2: B\nA 1/2: a\nB 1/3: A\nB 1/3: S\nB 1/3: b\n"
    "N 1: N S",
    "S 1/9: A b A b\nS 4/9: S S\nS 4/9: A\nA 1/5: a\nA 1/5: A A\nA 1/5: b\nA 2/5: S",
]


def all_told(grammar, row):
    """Everything that the program tells of a grammar and a row."""
    sums, parts = Sums(grammar, row), Parts(grammar, row)
    told = [sums.whole(), bounds(grammar, row), best_tree(grammar, row), written(grammar)]
    for head in grammar.heads():
        for i, j in stretches(row):
            told.append((sums.within(head, i, j), parts.beyond(head, i, j), parts.part(head, i, j)))
    told += [parts.uses(number) for number in range(len(grammar.rules()))]
    told += [likely(grammar, [(row, 2)]), learnt(grammar, [(row, 2)]).rules()]
    return told + [grammar.start(), grammar.rules(), grammar.heads(), grammar.live()]


def numbers_in(thing):
    if isinstance(thing, dict):
        thing = list(thing.items())
    if isinstance(thing, (list, tuple)):
        return [number for part in thing for number in numbers_in(part)]
    return [] if isinstance(thing, str) else [thing]


class TestTenWords(unittest.TestCase):
    def test_everything_of_ten_words(self):
        for text in GRAMMARS:
            grammar = grammar_of("S", text)
            sums, parts, found = Sums(grammar, ROW), Parts(grammar, ROW), bounds(grammar, ROW)
            self.assertEqual(len(found), 55 * len(grammar.heads()))
            self.assertEqual(parts.part("S", 0, 10), pair(
                Fraction(*sums.whole()) * Fraction(*parts.beyond("S", 0, 10)) / Fraction(*sums.whole())
            ))
            tree = best_tree(grammar, ROW)
            self.assertTrue(is_tree(grammar, tree))
            self.assertEqual((head_of(grammar, tree), words_of(grammar, tree)), ("S", ROW))
            self.assertEqual(share_of(grammar, tree), found["S", 0, 10])
            words = 0
            for number, (head, body, share) in enumerate(grammar.rules()):
                words += Fraction(*parts.uses(number)) * len([part for part in body if part not in grammar.heads()])
            self.assertEqual(words, 10)
            better = learnt(grammar, [(ROW, 1)])
            self.assertGreaterEqual(Fraction(*likely(better, [(ROW, 1)])), Fraction(*sums.whole()))

    def test_bounds_are_no_more_than_sums_and_nought_where_these_are(self):
        for text in GRAMMARS:
            grammar = grammar_of("S", text)
            sums = Sums(grammar, ROW)
            for (head, i, j), bound in bounds(grammar, ROW).items():
                self.assertLessEqual(Fraction(*bound), Fraction(*sums.within(head, i, j)))
                self.assertEqual(bound == NOUGHT, sums.within(head, i, j) == NOUGHT)

    def test_thirty_rules(self):
        rules = [("S", ("S", "S"), (1, 30))] + [("S", (letter,), (1, 30)) for letter in "abcdefghijklmnopqrstuvwxyzABC"]
        grammar = Grammar("S", rules)
        row = ("a", "b", "c", "d", "e", "f", "g", "h", "i", "j")
        self.assertEqual(Sums(grammar, row).whole(), pair(Fraction(4862, 30 ** 19)))
        self.assertEqual(Parts(grammar, row).uses(0), (9, 1))
        better = learnt(grammar, [(row, 9)])
        self.assertEqual([rule[2] for rule in better.rules()], [(9, 19)] + [(1, 19)] * 10)


class TestExact(unittest.TestCase):
    def test_only_whole_numbers_are_told(self):
        for text in GRAMMARS:
            for row in (("a",), ("a", "b", "b"), ROW):
                for number in numbers_in(all_told(grammar_of("S", text), row)):
                    self.assertIs(type(number), int)

    def test_no_share_is_rounded(self):
        bottom = 10 ** 60 - 11
        rules = [
            ("S", ("S",), (bottom - 3, bottom)), ("S", ("S", "S"), (1, bottom)), ("S", ("a",), (1, bottom)),
            ("S", ("b",), (1, bottom)),
        ]
        grammar = Grammar("S", rules)
        self.assertEqual(Sums(grammar, ("a",)).whole(), (1, 3))
        self.assertEqual(Sums(grammar, ("a", "b")).whole(), (1, 27))
        parts = Parts(grammar, ("a", "b"))
        self.assertEqual(parts.beyond("S", 0, 2), pair(Fraction(bottom, 3)))
        self.assertEqual(parts.uses(0), (bottom - 3, 1))
        self.assertEqual([parts.uses(number) for number in (1, 2, 3)], [(1, 1)] * 3)
        self.assertEqual(learnt(grammar, [(("a", "b"), 9)]).rules(), rules)


class TestNoEnd(unittest.TestCase):
    def test_nothing_that_is_reckoned_of_a_grammar(self):
        """Any refusal but NoTree would come out of here."""
        seen = {"told": 0, "no tree": 0}
        for seed in range(300):
            grammar = made_grammar(seed, ["S", "A", "B", "C"], ["a", "b"])
            row = made_row(seed, 1 + seed % 6, ["a", "b"])
            try:
                all_told(grammar, row)
                seen["told"] += 1
            except NoTree:
                self.assertEqual(Sums(grammar, row).whole(), NOUGHT)
                self.assertEqual(bounds(grammar, row)["S", 0, len(row)], NOUGHT)
                seen["no tree"] += 1
        self.assertGreater(min(seen.values()), 50)

    def test_rings_of_all_of_a_share(self):
        for text in ("S 1/2: N\nS 1/2: a\nN 1: N", "S 1/3: S\nS 1/3: N\nS 1/3: a\nN 1: M\nM 1/2: N\nM 1/2: M",
                     "N 1: M\nM 1: N\nS 1/2: M S\nS 1/2: a", "S 1: T\nT 1: U\nU 1/9: a\nU 8/9: S"):
            all_told(grammar_of("S", text), ("a",))
        for text in ("S 1: S", "S 1: T\nT 1: S", "S 1/2: S\nS 1/2: S S", "S 1: T\nT 1: T\nA 1: a"):
            grammar = grammar_of("S", text)
            self.assertEqual(Sums(grammar, ("a",)).whole(), NOUGHT)
            self.assertEqual(bounds(grammar, ("a",))["S", 0, 1], NOUGHT)
            self.assertEqual(likely(grammar, [(("a",), 1)]), NOUGHT)
            for asked in (Parts, best_tree):
                self.assertRaises(NoTree, asked, grammar, ("a",))

    def test_what_is_learnt_may_be_reckoned_with(self):
        """Learning may take all ways out of a ring but those of the rows; what is left has an end still."""
        for text in GRAMMARS:
            grammar = grammar_of("S", text)
            for row in (("a",), ("a", "b"), ("a", "b", "b")):
                found = learnt(grammar, [(row, 1)])
                all_told(found, row)


class TestLeftAlone(unittest.TestCase):
    def test_nothing_that_is_handed_in_is_changed(self):
        for text in GRAMMARS:
            rules = rules_of(text)
            grammar = Grammar("S", rules)
            counted = [(("a", "b"), 2), (("b", "b", "a", "b"), 1)]
            before = copy.deepcopy((rules, counted, vars(grammar)))
            all_told(grammar, ("a", "b", "b"))
            likely(grammar, counted)
            if likely(grammar, counted) != NOUGHT:
                learnt(grammar, counted)
            read(written(grammar))
            self.assertEqual((rules, counted, vars(grammar)), before)
        ways, ends = [[(1, 2), NOUGHT], [(1, 3), (1, 4)]], [(1, 5), NOUGHT]
        before = copy.deepcopy((ways, ends))
        solved(ways, ends).clear()
        self.assertEqual((ways, ends), before)

    def test_what_was_handed_in_or_told_may_be_changed(self):
        for text in GRAMMARS:
            rules = rules_of(text)
            grammar, row = Grammar("S", rules), ("a", "b", "b")
            sums, parts, other = Sums(grammar, row), Parts(grammar, row), read(written(grammar))
            before = copy.deepcopy(all_told(grammar, row))
            better = learnt(grammar, [(row, 2)])
            learnt_rules = better.rules()
            asked = [parts.uses(number) for number in range(len(rules))] + [sums.whole()]
            rules.clear()
            for one in (grammar, other, better):
                for told in (one.rules(), one.heads(), one.live()):
                    told.reverse()
                    told.append(told[0])
                    told.clear()
            for found in (bounds(grammar, row), bounds(other, row)):
                for key in list(found):
                    found[key] = NOUGHT
                found.clear()
            self.assertEqual(all_told(grammar, row), before)
            self.assertEqual(all_told(other, row), before)
            self.assertEqual(better.rules(), learnt_rules)
            self.assertEqual([parts.uses(number) for number in range(len(asked) - 1)] + [sums.whole()], asked)

    def test_the_same_each_time(self):
        for text in GRAMMARS:
            one, other = grammar_of("S", text), grammar_of("S", text)
            told = all_told(one, ROW[:5])
            all_told(other, ROW[3:9])
            self.assertEqual(all_told(other, ROW[:5]), told)
            self.assertEqual(all_told(one, ROW[:5]), told)


if __name__ == "__main__":
    unittest.main()
