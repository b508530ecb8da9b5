"""Point [13]: bounds and best trees."""

import inspect
import unittest
from fractions import Fraction

from helping import Case, grammar_of, made_grammar, made_row, pair, rules_of, stretches, trees_at
from scoreflow.best import best_tree, bounds
from scoreflow.errors import NoTree
from scoreflow.grammar import Grammar
from scoreflow.sums import Sums
from scoreflow.trees import head_of, is_tree, share_of, words_of

NOUGHT = (0, 1)
ONE = (1, 1)
HALF = (1, 2)

AMBIGUOUS = "S 1/2: S S\nS 1/4: a\nS 1/4: b"
RING = "S 1/4: S T\nS 1/2: T\nS 1/4: a\nT 1/3: S\nT 2/3: b"


class BestCase(Case):
    def assert_bounds(self, grammar, row, told):
        """Just these bounds aren't nought, and all others are there."""
        found = bounds(grammar, row)
        self.assertIs(type(found), dict)
        asked = {}
        for head in grammar.heads():
            for i, j in stretches(row):
                asked[head, i, j] = told.get((head, i, j), NOUGHT)
        self.assertEqual(found, asked)
        self.assert_best_tree(grammar, row)

    def assert_best_tree(self, grammar, row):
        bound = bounds(grammar, row)[grammar.start(), 0, len(row)]
        if bound == NOUGHT:
            self.assertEqual(Sums(grammar, row).whole(), NOUGHT)
            self.assert_refused(grammar, row)
            return
        tree = best_tree(grammar, row)
        self.assertIs(type(tree), tuple)
        self.assertIs(is_tree(grammar, tree), True)
        self.assertEqual(head_of(grammar, tree), grammar.start())
        self.assertEqual(words_of(grammar, tree), row)
        self.assertEqual(share_of(grammar, tree), bound)

    def assert_trees(self, grammar, row, most=99):
        """Each bound is the greatest share of all trees, gone through one by one. Tells how many there were."""
        told, seen = {}, 0
        for i, j in stretches(row):
            for head in grammar.heads():
                shares = [Fraction(*share_of(grammar, tree)) for tree in trees_at(grammar, row, head, i, j, most)]
                told[head, i, j] = pair(max(shares, default=Fraction(0)))
                seen += len(shares)
        self.assert_bounds(grammar, row, told)
        return seen

    def assert_refused(self, grammar, row):
        self.assert_refusal(NoTree, best_tree, grammar, row)


class TestWithoutRings(BestCase):
    def test_one_word(self):
        grammar = grammar_of("S", "S 1/3: a\nS 2/3: b")
        self.assert_bounds(grammar, ("a",), {("S", 0, 1): (1, 3)})
        self.assert_bounds(grammar, ("b",), {("S", 0, 1): (2, 3)})
        self.assertEqual(best_tree(grammar, ("b",)), (1, ("b",)))

    def test_the_greater_of_two_rules(self):
        for one, other, number in (("1/3", "2/3", 1), ("2/3", "1/3", 0)):
            grammar = grammar_of("S", f"S {one}: A\nS {other}: B\nA 1: a\nB 1: a")
            self.assert_bounds(grammar, ("a",), {("S", 0, 1): (2, 3), ("A", 0, 1): ONE, ("B", 0, 1): ONE})
            self.assertEqual(best_tree(grammar, ("a",)), (number, ((number + 2, ("a",)),)))

    def test_the_greater_of_two_partings(self):
        rules = "S 1: A B\nA 1/4: a\nA 3/4: a a\nB {}: a\nB {}: a a"
        for one, other, first, second in (("1/3", "2/3", 1, 3), ("1/9", "8/9", 0, 4)):
            grammar = grammar_of("S", rules.replace("{}", one, 1).replace("{}", other, 1))
            tree = best_tree(grammar, ("a",) * 3)
            # Of 3/4 times 1/3 and 1/4 times 2/3 the first is greater; of 3/4 times 1/9 and 1/4 times 8/9 the second.
            parts = ((2, ("a", "a")), (3, ("a",))) if first else ((1, ("a",)), (4, ("a", "a")))
            self.assertEqual(tree, (0, parts))
            self.assertEqual(bounds(grammar, ("a",) * 3)["S", 0, 3], (1, 4) if first else (2, 9))

    def test_a_tree_of_a_greater_share_with_a_first_rule_of_a_smaller_one(self):
        grammar = grammar_of("S", "S 3/4: A A\nS 1/4: a a\nA 1/2: a\nA 1/2: b")
        self.assertEqual(best_tree(grammar, ("a", "a")), (1, ("a", "a")))
        self.assertEqual(bounds(grammar, ("a", "a"))["S", 0, 2], (1, 4))

    def test_the_greatest_not_the_sum(self):
        told = {}
        for i, j in stretches(("a", "b", "a", "b")):
            many = j - i
            told["S", i, j] = pair(Fraction(1, 2) ** (many - 1) * Fraction(1, 4) ** many)
        self.assert_bounds(grammar_of("S", AMBIGUOUS), ("a", "b", "a", "b"), told)

    def test_bodies_of_three_and_four_symbols(self):
        grammar = grammar_of("S", "S 1/4: A A A\nS 1/4: A b A A\nS 1/2: b\nA 1/3: a\nA 1/3: a a\nA 1/3: S")
        for row in (("a",) * 5, ("a", "b", "a", "b"), ("a", "b", "a", "a", "a"), ("b",) * 4):
            self.assertGreater(self.assert_trees(grammar, row), 5)

    def test_steps_to_later_and_to_earlier_heads(self):
        forth = "A 1: B\nB 1: C\nC 1: D\nD 1/2: a\nD 1/2: D D"
        back = "D 1/2: a\nD 1/2: D D\nC 1: D\nB 1: C\nA 1: B"
        for text in (forth, back):
            told = {}
            for i, j in stretches(("a",) * 3):
                for head in "ABCD":
                    told[head, i, j] = (1, 2 ** (2 * (j - i) - 1))
            self.assert_bounds(grammar_of("A", text), ("a",) * 3, told)

    def test_a_longer_chain_of_greater_share(self):
        for text in ("S 1/9: a\nS 8/9: A\nA 8/9: B\nA 1/9: a\nB 1: C\nC 1: a",
                     "C 1: a\nB 1: C\nA 8/9: B\nA 1/9: a\nS 8/9: A\nS 1/9: a"):
            grammar = grammar_of("S", text)
            told = {("S", 0, 1): (64, 81), ("A", 0, 1): (8, 9), ("B", 0, 1): ONE, ("C", 0, 1): ONE}
            self.assert_bounds(grammar, ("a",), told)

    def test_symbols_that_the_grammar_does_not_have_and_heads_in_a_row(self):
        grammar = grammar_of("S", AMBIGUOUS)
        self.assert_bounds(grammar, ("x",), {})
        self.assert_bounds(grammar, ("S",), {})
        self.assert_bounds(grammar, ("a", "x", "a"), {("S", 0, 1): (1, 4), ("S", 2, 3): (1, 4)})
        self.assert_bounds(grammar, ("S", "a"), {("S", 1, 2): (1, 4)})

    def test_the_start_need_not_come_first(self):
        rules = rules_of("A 1/2: a\nA 1/2: S S\nS 1/3: a\nS 2/3: A A")
        told = {
            ("A", 0, 1): HALF, ("A", 1, 2): HALF, ("S", 0, 1): (1, 3), ("S", 1, 2): (1, 3),
            ("A", 0, 2): (1, 18), ("S", 0, 2): (1, 6),
        }
        for start in "AS":
            self.assert_bounds(Grammar(start, rules), ("a", "a"), told)
        self.assertEqual(best_tree(Grammar("S", rules), ("a", "a")), (3, ((0, ("a",)), (0, ("a",)))))
        self.assertEqual(best_tree(Grammar("A", rules), ("a", "a")), (1, ((2, ("a",)), (2, ("a",)))))

    def test_equal_trees_any_of_them(self):
        grammar = grammar_of("S", "S 1/2: A\nS 1/2: B\nA 1: a\nB 1: a")
        self.assertIn(best_tree(grammar, ("a",)), [(0, ((2, ("a",)),)), (1, ((3, ("a",)),))])
        self.assert_bounds(grammar, ("a",), {("S", 0, 1): HALF, ("A", 0, 1): ONE, ("B", 0, 1): ONE})

    def test_trees_of_made_grammars_one_by_one(self):
        seen = 0
        for seed in range(150):
            grammar = made_grammar(seed, ["S", "A", "B"], ["a", "b"], steps=False)
            for length in (1, 2, 3, 5):
                seen += self.assert_trees(grammar, made_row(seed, length, ["a", "b"]))
            self.assert_trees(grammar, made_row(seed, 3, ["a", "b", "x", "S"]))
        self.assertGreater(seen, 3000)

    def test_ten_words(self):
        grammar = grammar_of("S", "S 1/2: a S b\nS 1/4: S S\nS 1/4: a b")
        for row in (("a", "b") * 5, ("a",) * 5 + ("b",) * 5, ("a", "a", "b", "b", "a", "b", "a", "a", "b", "b")):
            self.assertGreaterEqual(self.assert_trees(grammar, row), 5)
        row = ("a", "b") * 5
        found = bounds(grammar_of("S", AMBIGUOUS), row)
        self.assertEqual(len(found), 55)
        self.assertEqual(found["S", 0, 10], (1, 2 ** 29))
        self.assert_best_tree(grammar_of("S", AMBIGUOUS), row)

    def test_rows_somewhat_beyond_ten_words_and_of_none(self):
        grammar = grammar_of("S", "S 1/2: a S\nS 1/2: a")
        for many in (11, 14):
            self.assertEqual(bounds(grammar, ("a",) * many)["S", 0, many], (1, 2 ** many))
            self.assert_best_tree(grammar, ("a",) * many)
        self.assertEqual(bounds(grammar, ()), {})
        self.assert_refused(grammar, ())

    def test_long_shares(self):
        bottom = 10 ** 60 - 11
        rules = [("S", ("S", "S"), (1, bottom)), ("S", ("a",), (bottom - 2, bottom)), ("S", ("b",), (1, bottom))]
        found = bounds(Grammar("S", rules), ("a",) * 10)
        self.assertEqual(found["S", 0, 10], pair(Fraction(1, bottom) ** 9 * Fraction(bottom - 2, bottom) ** 10))
        # Two shares that a rounded number could not tell apart.
        rules = [("S", ("A",), (bottom // 2, bottom)), ("S", ("B",), (bottom - bottom // 2, bottom))]
        rules += [("A", ("a",), ONE), ("B", ("a",), ONE)]
        self.assertEqual(best_tree(Grammar("S", rules), ("a",)), (1, ((3, ("a",)),)))
        rules = [rules[1], rules[0], rules[2], rules[3]]
        self.assertEqual(best_tree(Grammar("S", rules), ("a",)), (0, ((3, ("a",)),)))


class TestRings(BestCase):
    def test_a_rule_to_its_own_head(self):
        for top in range(1, 9):
            share = Fraction(top, 9)
            rules = [("S", ("S",), pair(share)), ("S", ("a",), pair(1 - share))]
            self.assert_bounds(Grammar("S", rules), ("a",), {("S", 0, 1): pair(1 - share)})
            self.assertEqual(best_tree(Grammar("S", rules), ("a",)), (1, ("a",)))

    def test_rings_of_two(self):
        grammar = grammar_of("S", "S 1/2: T\nS 1/2: a\nT 1/3: S\nT 2/3: b")
        self.assert_bounds(grammar, ("a",), {("S", 0, 1): HALF, ("T", 0, 1): (1, 6)})
        self.assert_bounds(grammar, ("b",), {("S", 0, 1): (1, 3), ("T", 0, 1): (2, 3)})
        self.assertEqual(best_tree(grammar, ("b",)), (0, ((3, ("b",)),)))

    def test_rings_of_three(self):
        text = "A 1/2: B\nA 1/2: a\nB 1/2: C\nB 1/2: b\nC 1/2: A\nC 1/2: c"
        for start in "ABC":
            told = {("A", 0, 1): HALF, ("C", 0, 1): (1, 4), ("B", 0, 1): (1, 8)}
            self.assert_bounds(grammar_of(start, text), ("a",), told)

    def test_rings_with_all_of_a_share(self):
        for size in (1, 2, 3, 5, 15):
            heads = ["H" + "abcdefghijklmno"[k] for k in range(size)]
            rules = [(heads[k], (heads[(k + 1) % size],), ONE) for k in range(size - 1)]
            rules += [(heads[-1], (heads[0],), (8, 9)), (heads[-1], ("w",), (1, 9))]
            for ordered in (rules, rules[::-1]):
                self.assert_bounds(Grammar(heads[0], ordered), ("w",), {(head, 0, 1): (1, 9) for head in heads})

    def test_rings_of_made_grammars_tree_by_tree(self):
        """One step more than there are heads goes round some ring; no tree that goes round more has a greater share."""
        seen, rings = 0, 0
        for seed in range(150):
            heads = ["S", "A", "B"][:2 + seed % 2]
            grammar = made_grammar(seed, heads, ["a", "b"])
            row = made_row(seed, 1 + seed % 3, ["a", "b"])
            rings += any(body == (head,) for head, body, share in grammar.rules())
            seen += self.assert_trees(grammar, row, len(heads) + 1)
        self.assertGreater(seen, 1000)
        self.assertGreater(rings, 20)

    def test_ten_words(self):
        row = ("a", "b", "a", "a", "b", "b", "a", "b", "a", "b")
        grammar = grammar_of("S", RING)
        found = bounds(grammar, row)
        self.assertEqual(len(found), 110)
        self.assert_best_tree(grammar, row)
        sums = Sums(grammar, row)
        for (head, i, j), bound in found.items():
            self.assertLess(Fraction(*bound), Fraction(*sums.within(head, i, j)))

    def test_deep_trees(self):
        """Chains of all heads at each word and each branching: no depth of calls is to bound this."""
        heads = ["H" + letter for letter in "abcdefghijklmnopqrstuvwxyzAB"]
        rules = [(head, (later,), ONE) for head, later in zip(heads, heads[1:])]
        rules += [(heads[-1], ("w", heads[0]), HALF), (heads[-1], ("w",), HALF)]
        for ordered in (rules, rules[::-1]):
            grammar = Grammar(heads[0], ordered)
            self.assert_best_tree(grammar, ("w",) * 10)
            self.assertEqual(bounds(grammar, ("w",) * 10)[heads[0], 0, 10], (1, 1024))


class TestNotLive(BestCase):
    def test_heads_that_are_not_live_have_nought_at_every_stretch(self):
        for text in ("S 1: S", "S 1: S S", "S 1: a S", "S 1: T\nT 1: S", "S 1/2: S\nS 1/2: T\nT 1/2: S\nT 1/2: T"):
            for row in (("a",), ("a", "a"), ("S",), ("a",) * 10):
                self.assert_bounds(grammar_of("S", text), row, {})

    def test_not_live_beside_live(self):
        grammar = grammar_of("S", "S 1/2: N\nS 1/4: S N\nS 1/4: a\nN 1/2: N\nN 1/2: S N")
        self.assert_bounds(grammar, ("a",), {("S", 0, 1): (1, 4)})
        self.assert_bounds(grammar, ("a", "a"), {("S", 0, 1): (1, 4), ("S", 1, 2): (1, 4)})

    def test_a_start_that_is_not_live(self):
        grammar = grammar_of("S", "S 1: S T\nT 1: t")
        self.assert_bounds(grammar, ("t",), {("T", 0, 1): ONE})
        self.assert_refused(grammar, ("t",))
        self.assert_refused(grammar, ("t", "t"))

    def test_refused(self):
        grammar = grammar_of("S", "S 1/2: a S b\nS 1/2: a b")
        for row in (("a",), ("b", "a"), ("a", "a", "b"), ("a", "b") * 2, ("a",) * 10, ("x",), ("S",), ("a", "S", "b")):
            self.assert_refused(grammar, row)
        self.assert_refused(grammar_of("S", "A 1: a\nS 1: b"), ("a",))


class TestLeftAlone(BestCase):
    def test_arguments(self):
        self.assertEqual(list(inspect.signature(bounds).parameters), ["grammar", "row"])
        self.assertEqual(list(inspect.signature(best_tree).parameters), ["grammar", "row"])
        grammar = grammar_of("S", "S 1: a")
        self.assertEqual(bounds(grammar=grammar, row=("a",)), {("S", 0, 1): ONE})
        self.assertEqual(best_tree(grammar=grammar, row=("a",)), (0, ("a",)))

    def test_a_new_dict_each_time(self):
        grammar, row = grammar_of("S", RING), ("a", "b")
        one, other = bounds(grammar, row), bounds(grammar, row)
        self.assertIsNot(one, other)
        before = dict(other)
        one.clear()
        one["S", 0, 2] = NOUGHT
        self.assertEqual(other, before)
        self.assertEqual(bounds(grammar, row), before)
        self.assert_best_tree(grammar, row)

    def test_lists_changed_behind_that_change_nothing(self):
        rules = rules_of(RING)
        grammar = Grammar("S", rules)
        before, tree = bounds(grammar, ("a", "b")), best_tree(grammar, ("a", "b"))
        for told in (rules, grammar.rules(), grammar.heads(), grammar.live()):
            told.clear()
        self.assertEqual(bounds(grammar, ("a", "b")), before)
        self.assertEqual(best_tree(grammar, ("a", "b")), tree)
        self.assertEqual(grammar.rules(), rules_of(RING))


if __name__ == "__main__":
    unittest.main()
