"""Points [7], [9] and [10]: rows, sums within and wholes."""

import inspect
import unittest
from fractions import Fraction

from helping import (
    Case, grammar_of, made_grammar, made_row, pair, partings, rules_of, stretches, sums_from_below, trees_at, worth_of,
)
from scoreflow.grammar import Grammar
from scoreflow.sums import Sums
from scoreflow.trees import share_of

NOUGHT = (0, 1)
ONE = (1, 1)
HALF = (1, 2)


def sum_by_rules(sums, grammar, row, head, i, j):
    """The right side of [9] for one head at one stretch."""
    total = Fraction(0)
    for other, body, share in grammar.rules():
        if other == head:
            for parted in partings(i, j, len(body)):
                product = Fraction(*share)
                for symbol, (left, right) in zip(body, parted):
                    product *= worth_of(sums, grammar, row, symbol, left, right)
                total += product
    return total


class SumsCase(Case):
    def assert_holds(self, grammar, row):
        """Each sum is what its rules make of the others, and at most 1; of heads that aren't live it is nought."""
        sums = Sums(grammar, row)
        for i, j in stretches(row):
            for head in grammar.heads():
                told = sums.within(head, i, j)
                self.assert_share(told)
                self.assertEqual(told, pair(sum_by_rules(sums, grammar, row, head, i, j)), (head, i, j))
                self.assertLessEqual(Fraction(*told), 1)
                if head not in grammar.live():
                    self.assertEqual(told, NOUGHT)
        self.assertEqual(sums.whole(), sums.within(grammar.start(), 0, len(row)))
        return sums

    def assert_trees(self, grammar, row):
        """Each sum is that of the shares of all trees, gone through one by one. Tells how many trees there were."""
        sums = Sums(grammar, row)
        seen = 0
        for i, j in stretches(row):
            for head in grammar.heads():
                trees = list(trees_at(grammar, row, head, i, j))
                total = sum([Fraction(*share_of(grammar, tree)) for tree in trees], Fraction(0))
                self.assertEqual(sums.within(head, i, j), pair(total), (head, i, j))
                seen += len(trees)
        self.assertEqual(sums.whole(), sums.within(grammar.start(), 0, len(row)))
        return seen

    def assert_sums(self, grammar, row, told):
        """Just these sums aren't nought."""
        sums = self.assert_holds(grammar, row)
        for i, j in stretches(row):
            for head in grammar.heads():
                self.assertEqual(sums.within(head, i, j), told.get((head, i, j), NOUGHT), (head, i, j))
        self.assertEqual(sums.whole(), told.get((grammar.start(), 0, len(row)), NOUGHT))


class TestWithoutRings(SumsCase):
    def test_one_word(self):
        grammar = grammar_of("S", "S 1/3: a\nS 2/3: b")
        self.assert_sums(grammar, ("a",), {("S", 0, 1): (1, 3)})
        self.assert_sums(grammar, ("b",), {("S", 0, 1): (2, 3)})
        self.assert_sums(grammar, ("c",), {})
        self.assertEqual(Sums(grammar_of("S", "S 1: a"), ("a",)).whole(), ONE)

    def test_a_stretch_that_is_not_all_of_a_body(self):
        grammar = grammar_of("S", "S 1/4: a\nS 3/4: a b")
        told = {("S", 0, 1): (1, 4), ("S", 0, 2): (3, 4), ("S", 2, 3): (1, 4)}
        self.assert_sums(grammar, ("a", "b", "a"), told)

    def test_bodies_of_one_to_four_words(self):
        rules = [("S", ("a",) * many, (1, 4)) for many in range(1, 5)]
        row = ("a",) * 6
        told = {("S", i, j): (1, 4) for i, j in stretches(row) if j - i <= 4}
        self.assert_sums(Grammar("S", rules), row, told)

    def test_two_partings(self):
        grammar = grammar_of("S", "S 1/2: S S\nS 1/2: a")
        told = {}
        for i, j in stretches(("a",) * 4):
            # So many trees as there are ways to set brackets round two and two.
            told["S", i, j] = pair(Fraction([1, 1, 2, 5][j - i - 1], 2 ** (2 * (j - i) - 1)))
        self.assert_sums(grammar, ("a",) * 4, told)

    def test_bodies_of_three_and_four_heads(self):
        grammar = grammar_of("S", "S 1/4: A A A\nS 3/4: A A A A\nA 1/2: a\nA 1/2: a a")
        # Three parts have three words one way, four words three ways; four parts have four words one way.
        self.assertEqual(Sums(grammar, ("a",) * 3).whole(), (1, 32))
        self.assertEqual(Sums(grammar, ("a",) * 4).whole(), pair(Fraction(3, 32) + Fraction(3, 64)))
        self.assertEqual(Sums(grammar, ("a",) * 2).whole(), NOUGHT)
        self.assertEqual(Sums(grammar, ("a",) * 8).whole(), pair(Fraction(3, 64)))
        self.assertEqual(Sums(grammar, ("a",) * 9).whole(), NOUGHT)
        self.assertGreater(self.assert_trees(grammar, ("a",) * 6), 30)

    def test_the_same_word_several_times_in_a_body(self):
        grammar = grammar_of("S", "S 1/2: a S a\nS 1/2: b")
        told = {("S", 2, 3): HALF, ("S", 1, 4): (1, 4), ("S", 0, 5): (1, 8)}
        self.assert_sums(grammar, ("a", "a", "b", "a", "a"), told)

    def test_steps_without_rings(self):
        grammar = grammar_of("S", "S 1/2: A\nS 1/2: B\nA 1/3: B\nA 2/3: a\nB 1/5: b\nB 4/5: a")
        told = {("B", 0, 1): (4, 5), ("A", 0, 1): (14, 15), ("S", 0, 1): (13, 15)}
        self.assert_sums(grammar, ("a",), told)
        told = {("B", 0, 1): (1, 5), ("A", 0, 1): (1, 15), ("S", 0, 1): (2, 15)}
        self.assert_sums(grammar, ("b",), told)

    def test_steps_to_later_and_to_earlier_heads(self):
        forth = "A 1: B\nB 1: C\nC 1: D\nD 1/2: a\nD 1/2: D D"
        back = "D 1/2: a\nD 1/2: D D\nC 1: D\nB 1: C\nA 1: B"
        for text in (forth, back):
            sums = self.assert_holds(grammar_of("A", text), ("a", "a", "a"))
            for head in "ABCD":
                self.assertEqual(sums.within(head, 0, 3), (1, 16))

    def test_symbols_that_the_grammar_does_not_have(self):
        grammar = grammar_of("S", "S 1/2: S S\nS 1/2: a")
        self.assert_sums(grammar, ("x",), {})
        self.assert_sums(grammar, ("x", "y", "x"), {})
        self.assert_sums(grammar, ("a", "x", "a"), {("S", 0, 1): HALF, ("S", 2, 3): HALF})
        self.assert_sums(grammar, ("A", "a"), {("S", 1, 2): HALF})

    def test_heads_in_a_row_are_no_words(self):
        grammar = grammar_of("S", "S 1/2: a A\nS 1/2: A\nA 1: a")
        self.assert_sums(grammar, ("S",), {})
        self.assert_sums(grammar, ("A",), {})
        self.assert_sums(grammar, ("a", "A"), {("A", 0, 1): ONE, ("S", 0, 1): HALF})
        self.assert_sums(grammar, ("A", "a", "S"), {("A", 1, 2): ONE, ("S", 1, 2): HALF})
        grammar = grammar_of("S", "S 1/2: S\nS 1/2: N a\nN 1: N")
        self.assert_sums(grammar, ("N",), {})
        self.assert_sums(grammar, ("N", "a"), {})
        self.assert_sums(grammar, ("S",), {})

    def test_the_start_need_not_come_first(self):
        rules = rules_of("A 1/2: a\nA 1/2: S S\nS 1/3: a\nS 2/3: A A")
        row = ("a", "a")
        self.assertEqual(Sums(Grammar("A", rules), row).whole(), pair(Fraction(1, 18)))
        self.assertEqual(Sums(Grammar("S", rules), row).whole(), pair(Fraction(1, 6)))

    def test_trees_of_made_grammars_one_by_one(self):
        seen = 0
        for seed in range(120):
            grammar = made_grammar(seed, ["S", "A", "B"], ["a", "b"], steps=False)
            seen += self.assert_trees(grammar, made_row(seed, 1 + seed % 5, ["a", "b"]))
            self.assert_trees(grammar, made_row(seed, 4, ["a", "b", "x", "S"]))
        self.assertGreater(seen, 1000)

    def test_ten_words(self):
        grammar = grammar_of("S", "S 1/2: S S\nS 1/4: a\nS 1/4: b")
        whole = Fraction(4862) * Fraction(1, 2) ** 9 * Fraction(1, 4) ** 10
        self.assertEqual(Sums(grammar, ("a", "b") * 5).whole(), pair(whole))
        self.assertEqual(Sums(grammar, ("a", "b") * 4 + ("a", "x")).whole(), NOUGHT)

    def test_ten_words_tree_by_tree(self):
        grammar = grammar_of("S", "S 1/2: a S b\nS 1/4: S S\nS 1/4: a b")
        for row in (("a", "b") * 5, ("a",) * 5 + ("b",) * 5, ("a", "a", "b", "b", "a", "b", "a", "a", "b", "b")):
            self.assertGreaterEqual(self.assert_trees(grammar, row), 5)

    def test_rows_somewhat_beyond_ten_words(self):
        grammar = grammar_of("S", "S 1/2: a S\nS 1/2: a")
        for many in (1, 10, 11, 12, 15):
            self.assertEqual(Sums(grammar, ("a",) * many).whole(), (1, 2 ** many))

    def test_no_words(self):
        for text in ("S 1/2: a S\nS 1/2: a", "S 1/2: S\nS 1/2: a", "S 1: S"):
            self.assertEqual(Sums(grammar_of("S", text), ()).whole(), NOUGHT)

    def test_thirty_rules(self):
        letters = "abcdefghijklmnopqrstuvwxyzABCD"
        rules = [("Start", (letter, "Start") if k % 2 else (letter,), (1, 30)) for k, letter in enumerate(letters)]
        sums = Sums(Grammar("Start", rules), ("b", "d", "f", "h", "j", "l", "n", "p", "r", "a"))
        self.assertEqual(sums.whole(), (1, 30 ** 10))
        heads = ["H" + letter for letter in letters]
        rules = [(head, (later,), ONE) for head, later in zip(heads, heads[1:])] + [(heads[29], ("w",), ONE)]
        sums = Sums(Grammar(heads[0], rules), ("w",) * 10)
        self.assertEqual([sums.within(head, 4, 5) for head in heads], [ONE] * 30)
        self.assertEqual(sums.whole(), NOUGHT)

    def test_long_shares(self):
        bottom = 10 ** 59 + 7
        rules = [("S", ("S", "S"), (3, bottom)), ("S", ("a",), (bottom - 3, bottom))]
        whole = 4862 * Fraction(3, bottom) ** 9 * Fraction(bottom - 3, bottom) ** 10
        self.assertEqual(Sums(Grammar("S", rules), ("a",) * 10).whole(), pair(whole))


class TestRings(SumsCase):
    def test_a_rule_to_its_own_head(self):
        for top in range(1, 9):
            share = Fraction(top, 9)
            rules = [("S", ("S",), pair(share)), ("S", ("a",), pair(1 - share))]
            # The sum of 1 and all powers of the share, times what is left of it.
            self.assert_sums(Grammar("S", rules), ("a",), {("S", 0, 1): ONE})
        grammar = grammar_of("S", "S 1/2: S\nS 1/3: a\nS 1/6: b")
        self.assert_sums(grammar, ("a",), {("S", 0, 1): (2, 3)})
        self.assert_sums(grammar, ("b",), {("S", 0, 1): (1, 3)})

    def test_nearly_all_of_a_share_comes_back(self):
        bottom = 10 ** 60 - 11
        rules = [("S", ("S",), (bottom - 2, bottom)), ("S", ("a",), (1, bottom)), ("S", ("b",), (1, bottom))]
        self.assert_sums(Grammar("S", rules), ("a",), {("S", 0, 1): HALF})

    def test_round_and_branching(self):
        grammar = grammar_of("S", "S 1/2: S\nS 1/4: S S\nS 1/4: a")
        # Each tree's node may be gone round without end: as though the other shares were doubled.
        told = {}
        for i, j in stretches(("a",) * 4):
            told["S", i, j] = pair(Fraction([1, 1, 2, 5][j - i - 1], 2 ** (2 * (j - i) - 1)))
        self.assert_sums(grammar, ("a",) * 4, told)

    def test_rings_of_two(self):
        grammar = grammar_of("S", "S 1/2: T\nS 1/2: a\nT 1/3: S\nT 2/3: b")
        # S comes to a with 1/2 and rounds of 1/6: 1/2 by 5/6.
        self.assert_sums(grammar, ("a",), {("S", 0, 1): (3, 5), ("T", 0, 1): (1, 5)})
        self.assert_sums(grammar, ("b",), {("S", 0, 1): (2, 5), ("T", 0, 1): (4, 5)})
        self.assert_sums(grammar, ("a", "b"), {
            ("S", 0, 1): (3, 5), ("T", 0, 1): (1, 5), ("S", 1, 2): (2, 5), ("T", 1, 2): (4, 5),
        })

    def test_rings_of_three(self):
        grammar = grammar_of("A", "A 1/2: B\nA 1/2: a\nB 1/2: C\nB 1/2: b\nC 1/2: A\nC 1/2: c")
        told = {("A", 0, 1): (4, 7), ("C", 0, 1): (2, 7), ("B", 0, 1): (1, 7)}
        self.assert_sums(grammar, ("a",), told)
        told = {("B", 0, 1): (4, 7), ("A", 0, 1): (2, 7), ("C", 0, 1): (1, 7)}
        self.assert_sums(grammar, ("b",), told)

    def test_rings_within_rings(self):
        grammar = grammar_of("A", """
            A 1/3: A
            A 1/3: B
            A 1/3: a
            B 1/4: A
            B 1/4: C
            B 1/2: A B
            C 1/5: B
            C 2/5: C
            C 2/5: C a
        """)
        self.assert_holds(grammar, ("a",) * 5)
        self.assertEqual(grammar.live(), ["A", "B", "C"])

    def test_all_but_one_rule_of_a_ring_lead_on_with_all_of_their_share(self):
        for size in (1, 2, 3, 5, 15):
            heads = ["H" + "abcdefghijklmno"[k] for k in range(size)]
            rules = [(heads[k], (heads[(k + 1) % size],), ONE) for k in range(size - 1)]
            rules += [(heads[-1], (heads[0],), (8, 9)), (heads[-1], ("w",), (1, 9))]
            sums = self.assert_holds(Grammar(heads[0], rules), ("w",))
            self.assertEqual([sums.within(head, 0, 1) for head in heads], [ONE] * size)

    def test_rings_at_longer_stretches(self):
        grammar = grammar_of("S", "S 1/2: T\nS 1/2: a\nT 1/2: S\nT 1/2: S S")
        sums = self.assert_holds(grammar, ("a",) * 6)
        # By hand: s = t/2 + 1/2 and t = s/2; then s = t/2 and t = s/2 + 2/9.
        self.assertEqual((sums.within("S", 0, 1), sums.within("T", 0, 1)), ((2, 3), (1, 3)))
        self.assertEqual((sums.within("S", 2, 4), sums.within("T", 2, 4)), ((4, 27), (8, 27)))

    def test_ten_words(self):
        grammar = grammar_of("S", "S 1/2: T\nS 1/4: S T\nS 1/4: a\nT 1/3: S\nT 1/3: b\nT 1/3: U T a\nU 1: S")
        self.assert_holds(grammar, ("a", "b", "a", "a", "b", "b", "a", "b", "a", "b"))

    def test_made_grammars(self):
        kinds = {"rings": 0, "not live": 0, "trees": 0, "no trees": 0}
        for seed in range(160):
            heads = ["S", "A", "B", "C"][:2 + seed % 3]
            grammar = made_grammar(seed, heads, ["a", "b"])
            row = made_row(seed, 1 + seed % 5, ["a", "b"] + [[], ["x"], [], ["A"]][seed % 4])
            sums = self.assert_holds(grammar, row)
            rules = [(head, body, top / bottom) for head, body, (top, bottom) in grammar.rules()]
            near = sums_from_below(heads, rules, row, 600)
            for (head, i, j), least in near.items():
                self.assertAlmostEqual(float(Fraction(*sums.within(head, i, j))), least, 6, (seed, head, i, j))
            kinds["rings"] += any(body == (head,) for head, body, share in grammar.rules())
            kinds["not live"] += len(grammar.live()) < len(grammar.heads())
            kinds["trees" if sums.whole() != NOUGHT else "no trees"] += 1
        for kind, many in kinds.items():
            self.assertGreater(many, 15, kind)


class TestNotLive(SumsCase):
    def test_heads_that_are_not_live_have_nought_at_every_stretch(self):
        for text in ("S 1: S", "S 1: S S", "S 1: S a", "S 1: a S", "S 1: T\nT 1: S", "S 1: T\nT 1: U\nU 1: S",
                     "S 1/2: S\nS 1/2: S S", "S 1/2: S\nS 1/2: T\nT 1/2: S\nT 1/2: T"):
            for row in (("a",), ("a", "a"), ("S",), ("S", "T", "a"), ("a",) * 10):
                self.assert_sums(grammar_of("S", text), row, {})

    def test_not_live_beside_live(self):
        grammar = grammar_of("S", "S 1/2: N\nS 1/2: a\nN 1: N")
        self.assert_sums(grammar, ("a",), {("S", 0, 1): HALF})
        grammar = grammar_of("S", "S 1/4: N S\nS 1/4: S N\nS 1/4: S S\nS 1/4: a\nN 1/2: N\nN 1/2: N a")
        told = {("S", 0, 1): (1, 4), ("S", 1, 2): (1, 4), ("S", 0, 2): (1, 64)}
        self.assert_sums(grammar, ("a", "a"), told)

    def test_not_live_heads_that_lead_to_live_ones(self):
        grammar = grammar_of("S", "N 1/2: M\nN 1/2: S N\nM 1: N\nS 1: a")
        self.assert_sums(grammar, ("a", "a"), {("S", 0, 1): ONE, ("S", 1, 2): ONE})

    def test_rings_with_heads_that_are_not_live(self):
        grammar = grammar_of("S", "S 1/3: S\nS 1/3: N\nS 1/3: a\nN 1/2: N\nN 1/2: M\nM 1: N")
        self.assert_sums(grammar, ("a",), {("S", 0, 1): HALF})

    def test_a_ring_that_a_dead_head_stands_beside(self):
        grammar = grammar_of("A", "A 1/2: B\nA 1/2: N\nB 1/2: A\nB 1/2: b\nN 1: N N")
        self.assert_sums(grammar, ("b",), {("A", 0, 1): (1, 3), ("B", 0, 1): (2, 3)})

    def test_no_tree_at_a_stretch(self):
        grammar = grammar_of("S", "S 1/2: S\nS 1/2: a b\nT 1/2: T\nT 1/2: b a")
        told = {("S", 0, 2): ONE, ("T", 1, 3): ONE, ("S", 2, 4): ONE}
        self.assert_sums(grammar, ("a", "b", "a", "b"), told)

    def test_a_start_that_is_not_live(self):
        grammar = grammar_of("S", "S 1: S T\nT 1: t")
        self.assert_sums(grammar, ("t",), {("T", 0, 1): ONE})
        self.assertEqual(Sums(grammar, ("t", "t")).whole(), NOUGHT)


class TestSumsAreLeftAlone(SumsCase):
    def test_arguments(self):
        self.assertEqual(list(inspect.signature(Sums).parameters), ["grammar", "row"])
        sums = Sums(grammar=grammar_of("S", "S 1: a"), row=("a",))
        self.assertEqual(list(inspect.signature(sums.within).parameters), ["head", "i", "j"])
        self.assertEqual(list(inspect.signature(sums.whole).parameters), [])
        self.assertEqual(sums.within(head="S", i=0, j=1), ONE)

    def test_grammar_and_row_stay_as_they_are(self):
        text = "S 1/2: T\nS 1/2: a\nT 1/3: S\nT 2/3: b\nN 1: N"
        grammar, row = grammar_of("S", text), ("a", "b")
        Sums(grammar, row).whole()
        self.assertEqual(grammar.rules(), rules_of(text))
        self.assertEqual((grammar.start(), grammar.heads(), grammar.live()), ("S", ["S", "T", "N"], ["S", "T"]))
        self.assertEqual(row, ("a", "b"))

    def test_lists_changed_behind_that_change_no_sum(self):
        rules = rules_of("S 1/2: T\nS 1/2: a\nT 1/3: S\nT 2/3: b")
        grammar = Grammar("S", rules)
        sums = Sums(grammar, ("a",))
        for told in (rules, grammar.rules(), grammar.heads(), grammar.live()):
            told.clear()
            self.assertEqual((sums.whole(), sums.within("T", 0, 1)), ((3, 5), (1, 5)))
            self.assertEqual(Sums(grammar, ("a",)).whole(), (3, 5))

    def test_asked_in_any_order_and_again(self):
        grammar = grammar_of("S", "S 1/2: S\nS 1/4: S S\nS 1/4: a")
        row = ("a",) * 4
        one, other = Sums(grammar, row), Sums(grammar, row)
        told = [one.within("S", i, j) for i, j in stretches(row)]
        self.assertEqual([other.within("S", i, j) for i, j in reversed(list(stretches(row)))], told[::-1])
        self.assertEqual([one.within("S", i, j) for i, j in stretches(row)], told)

    def test_two_rows_of_one_grammar(self):
        grammar = grammar_of("S", "S 1/2: S\nS 1/3: a\nS 1/6: b")
        one, other = Sums(grammar, ("a",)), Sums(grammar, ("b",))
        self.assertEqual((one.whole(), other.whole(), one.whole()), ((2, 3), (1, 3), (2, 3)))


if __name__ == "__main__":
    unittest.main()
