"""Point [8]: trees, their heads, words and shares, and what is no tree."""

import inspect
import unittest
from fractions import Fraction

from helping import grammar_of, made_grammar, pair, trees_at
from scoreflow import trees
from scoreflow.grammar import Grammar
from scoreflow.trees import head_of, is_tree, share_of, words_of

TEXT = """
    S 1/2: S S
    S 1/3: a
    S 1/6: A
    A 2/5: a S b
    A 3/5: c
    B 1/4: S
    B 3/4: a b c d
"""
# The same rules by their numbers, as a reader needs them.
SS, SA, S_TO_A, A_LONG, AC, BS, B_WORDS = range(7)

LEAF = (SA, ("a",))
C_LEAF = (AC, ("c",))
OVER_C = (S_TO_A, (C_LEAF,))
LONG = (A_LONG, ("a", LEAF, "b"))
DEEP = (SS, ((SS, (LEAF, OVER_C)), (S_TO_A, ((A_LONG, ("a", (SS, (LEAF, LEAF)), "b")),))))


def nested(many):
    """A tree with so many trees within one another, itself among them."""
    tree = LEAF
    for _ in range(many - 1):
        tree = (SS, (tree, LEAF))
    return tree


def by_turns(many):
    """As many, of two heads by turns."""
    tree = C_LEAF
    for k in range(many - 1):
        tree = (A_LONG, ("a", tree, "b")) if k % 2 else (S_TO_A, (tree,))
    return tree


def wrapped(inner, many):
    """Something so many trees deep within, in the place of a head's tree."""
    for _ in range(many):
        inner = (SS, (LEAF, inner))
    return inner


class TreeCase(unittest.TestCase):
    def setUp(self):
        self.grammar = grammar_of("S", TEXT)

    def assert_tree(self, tree, head, words, fraction):
        told = words_of(self.grammar, tree)
        self.assertIs(is_tree(self.grammar, tree), True)
        self.assertEqual(head_of(self.grammar, tree), head)
        self.assertIs(type(told), tuple)
        self.assertEqual(told, tuple(words.split()))
        self.assertEqual(share_of(self.grammar, tree), pair(fraction))

    def assert_no_tree(self, thing):
        self.assertIs(is_tree(self.grammar, thing), False, thing)
        for many in (1, 2, 7):
            self.assertIs(is_tree(self.grammar, wrapped(thing, many)), False, thing)


class TestTrees(TreeCase):
    def test_one_deep(self):
        self.assert_tree(LEAF, "S", "a", Fraction(1, 3))
        self.assert_tree(C_LEAF, "A", "c", Fraction(3, 5))
        self.assert_tree((B_WORDS, ("a", "b", "c", "d")), "B", "a b c d", Fraction(3, 4))

    def test_two_deep(self):
        self.assert_tree((SS, (LEAF, LEAF)), "S", "a a", Fraction(1, 18))
        self.assert_tree(OVER_C, "S", "c", Fraction(1, 10))
        self.assert_tree(LONG, "A", "a a b", Fraction(2, 15))
        self.assert_tree((BS, (LEAF,)), "B", "a", Fraction(1, 12))

    def test_several_deep(self):
        share = Fraction(1, 2) ** 3 * Fraction(1, 3) ** 3 * Fraction(1, 6) ** 2 * Fraction(3, 5) * Fraction(2, 5)
        self.assert_tree(DEEP, "S", "a c a a a b", share)
        self.assert_tree((BS, (DEEP,)), "B", "a c a a a b", share / 4)

    def test_words_from_the_left_on(self):
        self.assert_tree((SS, (LEAF, OVER_C)), "S", "a c", Fraction(1, 60))
        self.assert_tree((SS, (OVER_C, LEAF)), "S", "c a", Fraction(1, 60))
        left = (SS, ((SS, (LEAF, OVER_C)), (S_TO_A, (LONG,))))
        right = (SS, (LEAF, (SS, (OVER_C, (S_TO_A, (LONG,))))))
        self.assertEqual(words_of(self.grammar, left), ("a", "c", "a", "a", "b"))
        self.assertEqual(words_of(self.grammar, right), ("a", "c", "a", "a", "b"))

    def test_a_rule_counts_as_often_as_it_stands(self):
        for many in range(1, 30):
            share = Fraction(1, 2) ** (many - 1) * Fraction(1, 3) ** many
            self.assert_tree(nested(many), "S", "a " * many, share)

    def test_rules_that_come_back_to_themselves(self):
        grammar = grammar_of("S", "S 1/3: S\nS 2/3: a")
        tree = (1, ("a",))
        for many in range(12):
            self.assertIs(is_tree(grammar, tree), True)
            self.assertEqual(head_of(grammar, tree), "S")
            self.assertEqual(words_of(grammar, tree), ("a",))
            self.assertEqual(share_of(grammar, tree), pair(Fraction(2, 3) * Fraction(1, 3) ** many))
            tree = (0, (tree,))

    def test_one_tree_in_several_places(self):
        both = (SS, (OVER_C, OVER_C))
        self.assert_tree((SS, (both, both)), "S", "c c c c", Fraction(1, 8) * Fraction(1, 10) ** 4)

    def test_a_share_of_one(self):
        grammar = Grammar("S", [("S", ("T", "T"), (1, 1)), ("T", ("t",), (1, 1))])
        self.assertEqual(share_of(grammar, (0, ((1, ("t",)), (1, ("t",))))), (1, 1))

    def test_heads_that_are_no_start(self):
        for tree, head in ((C_LEAF, "A"), (LONG, "A"), ((BS, (LEAF,)), "B")):
            self.assertEqual(head_of(self.grammar, tree), head)
            self.assertIs(is_tree(self.grammar, tree), True)

    def test_deep_trees(self):
        for many in (10, 59, 60, 61, 65, 500):
            self.assert_tree(nested(many), "S", "a " * many, Fraction(1, 2) ** (many - 1) * Fraction(1, 3) ** many)

    def test_very_deep_trees(self):
        many = 3000
        grammar = grammar_of("S", "S 1/3: S\nS 2/3: a")
        tree = (1, ("a",))
        for _ in range(many):
            tree = (0, (tree,))
        self.assertIs(is_tree(grammar, tree), True)
        self.assertEqual(words_of(grammar, tree), ("a",))
        self.assertEqual(share_of(grammar, tree), (2, 3 ** (many + 1)))

    def test_all_trees_of_made_grammars(self):
        row = ("a", "b", "a", "a", "b")
        seen = 0
        for seed in range(60):
            grammar = made_grammar(seed, ["S", "A", "B"], ["a", "b"], steps=False)
            for head in grammar.heads():
                for i, j in ((0, 1), (1, 2), (0, 2), (1, 4), (0, 5)):
                    for tree in list(trees_at(grammar, row, head, i, j))[:40]:
                        seen += 1
                        self.assertIs(is_tree(grammar, tree), True)
                        self.assertEqual(head_of(grammar, tree), head)
                        self.assertEqual(words_of(grammar, tree), row[i:j])
                        self.assertEqual(share_of(grammar, tree), pair(self.product(grammar, tree)))
        self.assertGreater(seen, 300)

    def product(self, grammar, tree):
        share = Fraction(*grammar.rules()[tree[0]][2])
        for part in tree[1]:
            if type(part) is tuple:
                share *= self.product(grammar, part)
        return share

    def test_arguments(self):
        for name in ("head_of", "words_of", "share_of"):
            self.assertEqual(list(inspect.signature(getattr(trees, name)).parameters), ["grammar", "tree"], name)
        self.assertEqual(list(inspect.signature(is_tree).parameters), ["grammar", "thing"])


class TestNoTrees(TreeCase):
    def test_rules_that_are_not_there(self):
        for number in (-1, -2, -6, -7, -8, -100, 7, 8, 100, 10 ** 30, -10 ** 30):
            for parts in ((), ("a",), (LEAF,), (LEAF, LEAF), ("a", "b", "c", "d"), (C_LEAF,), ("c",)):
                self.assert_no_tree((number, parts))

    def test_another_rule(self):
        for number in range(7):
            for tree in (LEAF, C_LEAF, OVER_C, LONG, DEEP, (BS, (LEAF,)), (B_WORDS, ("a", "b", "c", "d"))):
                if number not in (tree[0], BS):
                    self.assert_no_tree((number, tree[1]))

    def test_a_part_too_few(self):
        for thing in ((SA, ()), (SS, ()), (SS, (LEAF,)), (A_LONG, ("a", LEAF)), (A_LONG, (LEAF, "b")), (S_TO_A, ()),
                      (A_LONG, ("a", "b")), (B_WORDS, ("a", "b", "c")), (B_WORDS, ("b", "c", "d")), (BS, ())):
            self.assert_no_tree(thing)

    def test_a_part_too_many(self):
        for thing in ((SA, ("a", "a")), (SS, (LEAF, LEAF, LEAF)), (S_TO_A, (C_LEAF, C_LEAF)), (AC, ("c", "c")),
                      (A_LONG, ("a", LEAF, "b", "b")), (A_LONG, ("a", LEAF, LEAF, "b")), (SA, ("a", LEAF)),
                      (B_WORDS, ("a", "b", "c", "d", "d")), (BS, (LEAF, LEAF))):
            self.assert_no_tree(thing)

    def test_another_word(self):
        for thing in ((SA, ("b",)), (SA, ("A",)), (SA, ("aa",)), (SA, ("",)), (SA, ("a\n",)), (SA, (" a",)),
                      (A_LONG, ("b", LEAF, "b")), (A_LONG, ("a", LEAF, "a")), (A_LONG, ("b", LEAF, "a")),
                      (B_WORDS, ("a", "b", "d", "c")), (B_WORDS, ("a", "b", "c", "c")), (AC, ("C",))):
            self.assert_no_tree(thing)

    def test_a_heads_own_symbol_in_a_trees_place(self):
        for thing in ((S_TO_A, ("A",)), (SS, ("S", "S")), (SS, (LEAF, "S")), (SS, ("S", LEAF)), (BS, ("S",)),
                      (A_LONG, ("a", "S", "b"))):
            self.assert_no_tree(thing)

    def test_a_tree_of_another_head(self):
        for thing in ((S_TO_A, (LEAF,)), (S_TO_A, (OVER_C,)), (SS, (LEAF, C_LEAF)), (SS, (C_LEAF, LEAF)),
                      (A_LONG, ("a", C_LEAF, "b")), (BS, (C_LEAF,)), (BS, ((BS, (LEAF,)),)), (SS, (LONG, LEAF))):
            self.assert_no_tree(thing)

    def test_a_text_where_a_tree_is_due(self):
        for text in ("", "a", "c", "aa", "ab", "a\n", "12", "abc", "S", "SA", "abcdefgh"):
            for thing in ((S_TO_A, (text,)), (SS, (LEAF, text)), (SS, (text, LEAF)), (SS, (text, text)),
                          (BS, (text,)), (A_LONG, ("a", text, "b"))):
                self.assert_no_tree(thing)

    def test_a_tree_where_a_word_is_due(self):
        for thing in ((SA, (LEAF,)), (AC, (C_LEAF,)), (A_LONG, (LEAF, LEAF, "b")), (A_LONG, ("a", LEAF, LEAF)),
                      (SA, ((SA,),)), (SA, ((SA, ()),)), (B_WORDS, (LEAF, "b", "c", "d")), (B_WORDS, ("a", "b", "c", LEAF))):
            self.assert_no_tree(thing)

    def test_whole_numbers_alone(self):
        for number in list(range(-2, 9)) + [10 ** 30]:
            self.assert_no_tree((number,))
            self.assert_no_tree((S_TO_A, ((number,),)))
            self.assert_no_tree((SA, ((number,),)))

    def test_a_fault_in_each_place(self):
        faulty = [(SA, ("b",)), (SA,), (SS, (LEAF,)), C_LEAF, "a", "S", (-7, (LEAF, LEAF)), (7, ("a",))]
        for fault in faulty:
            for thing in ((SS, (fault, LEAF)), (SS, (LEAF, fault)), (A_LONG, ("a", fault, "b")), (BS, (fault,)),
                          (SS, ((SS, (fault, LEAF)), LEAF)), (SS, ((SS, (LEAF, LEAF)), (SS, (LEAF, fault))))):
                self.assert_no_tree(thing)

    def test_sixty_within_one_another(self):
        for many in (2, 30, 58, 59, 60, 61, 70):
            self.assertIs(is_tree(self.grammar, wrapped(LEAF, many - 1)), True)
            for fault in ((SA, ("b",)), (SA,), (SS, (LEAF,)), C_LEAF, "a", (-7, (LEAF, LEAF))):
                self.assertIs(is_tree(self.grammar, wrapped(fault, many - 1)), False)
            self.assertIs(is_tree(self.grammar, by_turns(many)), True)
            self.assertIs(is_tree(self.grammar, (S_TO_A, (wrapped(by_turns(many), 1),))), False)

    def test_a_tree_of_another_grammar(self):
        other = grammar_of("S", "S 1/2: a\nS 1/2: S S")
        tree = (1, ((0, ("a",)), (0, ("a",))))
        self.assertIs(is_tree(other, tree), True)
        self.assertIs(is_tree(self.grammar, tree), False)
        self.assertIs(is_tree(other, (SS, (LEAF, LEAF))), False)

    def test_grammars_with_one_rule(self):
        grammar = grammar_of("S", "S 1: S")
        self.assertIs(is_tree(grammar, (0, ("S",))), False)
        self.assertIs(is_tree(grammar, (0, ((0, ("S",)),))), False)
        self.assertIs(is_tree(grammar, (0,)), False)
        self.assertIs(is_tree(grammar, (1, ("S",))), False)


if __name__ == "__main__":
    unittest.main()
