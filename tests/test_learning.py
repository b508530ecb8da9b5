"""Points [14] and [15]: how likely counted rows are, and learning from them."""

import inspect
import unittest
from fractions import Fraction

from helping import Case, Numbers, grammar_of, made_grammar, made_row, nodes_of, pair, rules_of, trees_at
from scoreflow.errors import NoTree
from scoreflow.grammar import Grammar
from scoreflow.learning import learnt, likely
from scoreflow.parts import Parts
from scoreflow.sums import Sums
from scoreflow.trees import share_of

NOUGHT = (0, 1)
ONE = (1, 1)
HALF = (1, 2)

AMBIGUOUS = "S 1/2: S S\nS 1/4: a\nS 1/4: b"
RING = "S 1/4: S T\nS 1/2: T\nS 1/4: a\nT 1/3: S\nT 2/3: b"
TWO_WAYS = "S 1/2: A a\nS 1/2: a A\nA 1/3: a\nA 2/3: a a"


def counts_by_trees(grammar, counted):
    """The counts of [14] from the rows' trees, gone through one by one. Only without rings."""
    counts = [Fraction(0)] * len(grammar.rules())
    for row, many in counted:
        trees = list(trees_at(grammar, row, grammar.start(), 0, len(row)))
        whole = sum(Fraction(*share_of(grammar, tree)) for tree in trees)
        for tree in trees:
            for number, i, j in nodes_of(tree, 0):
                counts[number] += many * Fraction(*share_of(grammar, tree)) / whole
    return counts


def counts_by_uses(grammar, counted):
    """The counts of [14] from the uses that the program tells."""
    counts = [Fraction(0)] * len(grammar.rules())
    for row, many in counted:
        parts = Parts(grammar, row)
        for number in range(len(counts)):
            counts[number] += many * Fraction(*parts.uses(number))
    return counts


def rules_by_counts(grammar, counts):
    found = []
    for (head, body, share), count in zip(grammar.rules(), counts):
        total = sum(other for rule, other in zip(grammar.rules(), counts) if rule[0] == head)
        if total == 0:
            found.append((head, body, share))
        elif count != 0:
            found.append((head, body, pair(count / total)))
    return found


def made_counted(grammar, seed, most):
    """Some counted rows of the grammar's words, each with a tree."""
    numbers = Numbers(seed)
    counted = []
    for k in range(12):
        row = made_row(seed * 12 + k, 1 + numbers.below(most), ["a", "b"])
        if Sums(grammar, row).whole() != NOUGHT and len(counted) < 3:
            counted.append((row, 1 + numbers.below(9)))
    return counted


class LearningCase(Case):
    def assert_learnt(self, grammar, counted, rules):
        start, before, rows = grammar.start(), grammar.rules(), list(counted)
        found = learnt(grammar, counted)
        self.assertIs(type(found), Grammar)
        self.assertIsNot(found, grammar)
        self.assertEqual(found.rules(), rules)
        self.assertEqual(found.start(), start)
        self.assertEqual(sorted(found.heads()), sorted(grammar.heads()))
        self.assertEqual((grammar.start(), grammar.rules()), (start, before))
        self.assertEqual(counted, rows)
        return found

    def assert_no_less_likely(self, grammar, counted):
        """Point [15]. Tells whether they are more likely now."""
        before = Fraction(*likely(grammar, counted))
        after = Fraction(*likely(learnt(grammar, counted), counted))
        self.assertGreaterEqual(after, before)
        return after > before

    def assert_refused(self, grammar, counted):
        self.assert_refusal(NoTree, learnt, grammar, counted)


class TestLikely(LearningCase):
    def test_of_none(self):
        for text in (AMBIGUOUS, RING, "S 1: S"):
            self.assertEqual(likely(grammar_of("S", text), []), ONE)

    def test_one_row(self):
        grammar = grammar_of("S", "S 1/3: a\nS 2/3: b")
        for many in range(1, 10):
            self.assertEqual(likely(grammar, [(("a",), many)]), (1, 3 ** many))
            self.assertEqual(likely(grammar, [(("b",), many)]), (2 ** many, 3 ** many))

    def test_several_rows(self):
        grammar = grammar_of("S", "S 1/6: a\nS 1/3: b\nS 1/2: c")
        counted = [(("a",), 1), (("b",), 2), (("c",), 3)]
        self.assertEqual(likely(grammar, counted), pair(Fraction(1, 6) * Fraction(1, 9) * Fraction(1, 8)))
        self.assertEqual(likely(grammar, counted[::-1]), likely(grammar, counted))
        # A row that stands twice counts twice.
        self.assertEqual(likely(grammar, [(("b",), 2), (("b",), 3)]), likely(grammar, [(("b",), 5)]))

    def test_wholes_over_several_trees_and_rings(self):
        for text in (AMBIGUOUS, RING):
            grammar = grammar_of("S", text)
            rows = [(("a", "b", "a"), 2), (("b",), 9), (("b", "b", "a", "b"), 1), (("a",), 4)]
            if text == RING:
                rows = [(("a", "b", "b"), 2), (("b",), 9), (("b", "a", "b", "b"), 1), (("a",), 4)]
            product = Fraction(1)
            for row, many in rows:
                product *= Fraction(*Sums(grammar, row).whole()) ** many
            self.assertNotEqual(product, 0)
            self.assertEqual(likely(grammar, rows), pair(product))

    def test_nought_where_a_whole_is_nought(self):
        grammar = grammar_of("S", AMBIGUOUS)
        for wrong in (("x",), ("S",), ("a", "S"), ("a", "x", "b")):
            for place in range(3):
                counted = [(("a",), 2), (("b", "a"), 1)]
                counted.insert(place, (wrong, 3))
                self.assertEqual(likely(grammar, counted), NOUGHT)
        self.assertEqual(likely(grammar_of("S", "S 1: S"), [(("a",), 1)]), NOUGHT)

    def test_a_start_that_is_not_the_first_head(self):
        rules = rules_of("A 1/2: a\nA 1/2: S S\nS 1/3: a\nS 2/3: A A")
        self.assertEqual(likely(Grammar("S", rules), [(("a", "a"), 2)]), (1, 36))
        self.assertEqual(likely(Grammar("A", rules), [(("a", "a"), 2)]), (1, 324))

    def test_somewhat_beyond_nine_times(self):
        self.assertEqual(likely(grammar_of("S", AMBIGUOUS), [(("a",), 12)]), (1, 4 ** 12))


class TestLearnt(LearningCase):
    def test_one_tree_each(self):
        grammar = grammar_of("S", "S 1/3: a\nS 1/3: b\nS 1/3: c")
        rules = rules_of("S 2/3: a\nS 1/3: c")
        self.assert_learnt(grammar, [(("a",), 4), (("c",), 2)], rules)
        self.assert_learnt(grammar, [(("c",), 2), (("a",), 4)], rules)
        self.assert_learnt(grammar, [(("c",), 1), (("a",), 1), (("c",), 1), (("a",), 3)], rules)
        self.assert_learnt(grammar, [(("b",), 7)], rules_of("S 1: b"))

    def test_rules_as_often_as_they_stand(self):
        grammar = grammar_of("S", "S 1/4: A A\nS 3/4: A\nA 1/2: a\nA 1/2: b")
        # Once S A A with a and b, twice S A with a: four parts A, three of them a.
        counted = [(("a", "b"), 1), (("a",), 2)]
        self.assert_learnt(grammar, counted, rules_of("S 1/3: A A\nS 2/3: A\nA 3/4: a\nA 1/4: b"))

    def test_several_trees_of_a_row(self):
        grammar = grammar_of("S", TWO_WAYS)
        self.assert_learnt(grammar, [(("a",) * 3, 2)], rules_of("S 1/2: A a\nS 1/2: a A\nA 1: a a"))
        grammar = grammar_of("S", "S 1/4: A B\nS 3/4: B A\nA 1/3: a\nA 2/3: b\nB 1/2: a\nB 1/2: b")
        # For a b: A B with 1/4 * 1/3 * 1/2 and B A with 3/4 * 1/2 * 2/3, that is one to six.
        self.assert_learnt(grammar, [(("a", "b"), 5)], rules_of("""
            S 1/7: A B
            S 6/7: B A
            A 1/7: a
            A 6/7: b
            B 6/7: a
            B 1/7: b
        """))

    def test_rings(self):
        grammar = grammar_of("S", "S 1/3: S\nS 1/3: a\nS 1/3: b")
        # Each row goes round one half of a time on the average.
        self.assert_learnt(grammar, [(("a",), 1), (("b",), 2)], rules_of("S 1/3: S\nS 2/9: a\nS 4/9: b"))
        grammar = grammar_of("S", RING)
        for counted in ([(("a", "b"), 2)], [(("a",), 1), (("b",), 9), (("a", "b", "b"), 3)]):
            self.assert_learnt(grammar, counted, rules_by_counts(grammar, counts_by_uses(grammar, counted)))
        found = learnt(grammar, [(("a", "b"), 2)])
        self.assertEqual(found.rules(), rules_of("S 5/13: S T\nS 3/13: T\nS 5/13: a\nT 3/8: S\nT 5/8: b"))

    def test_rules_of_count_nought_are_left_out(self):
        text = "S 1/4: b\nS 1/4: A S\nS 1/2: N\nA 1/2: a\nA 1/4: c\nA 1/4: A N\nN 1: N"
        rules = rules_of("S 1/3: b\nS 2/3: A S\nA 1: a\nN 1: N")
        self.assert_learnt(grammar_of("S", text), [(("a", "a", "b"), 3)], rules)

    def test_a_rule_of_a_tree_but_not_of_this_row(self):
        grammar = grammar_of("S", "S 1/2: A\nS 1/2: B\nA 1/2: a\nA 1/2: c\nB 1/3: b\nB 2/3: c")
        # B has no tree here, though it stands where it might: its rules stay, the rule to it goes.
        rules = rules_of("S 1: A\nA 1: a\nB 1/3: b\nB 2/3: c")
        self.assert_learnt(grammar, [(("a",), 1)], rules)

    def test_heads_whose_counts_are_nought_stay_as_they_are(self):
        grammar = grammar_of("S", "U 1/7: U S\nU 6/7: S\nS 1/2: a\nS 1/2: b\nN 2/5: N\nN 3/5: N a")
        rules = rules_of("U 1/7: U S\nU 6/7: S\nS 1/3: a\nS 2/3: b\nN 2/5: N\nN 3/5: N a")
        self.assert_learnt(grammar, [(("a",), 1), (("b",), 2)], rules)

    def test_of_no_counted_rows(self):
        for text in (AMBIGUOUS, RING, "S 1: S", "S 1/2: N\nS 1/2: a\nN 1: N"):
            self.assert_learnt(grammar_of("S", text), [], rules_of(text))

    def test_rules_in_their_order(self):
        text = "A 1/4: c\nS 1/2: A b\nA 1/4: a\nS 1/2: a\nA 1/2: S A"
        found = self.assert_learnt(grammar_of("S", text), [(("a", "b"), 1)], rules_of("S 1: A b\nA 1: a"))
        # The heads are the same; that they are told in another order comes of the first rule that was left out.
        self.assertEqual(found.heads(), ["S", "A"])
        found = self.assert_learnt(grammar_of("S", text), [(("a", "b"), 1), (("a", "a", "b"), 1)], [
            ("S", ("A", "b"), (2, 3)), ("A", ("a",), (2, 3)), ("S", ("a",), (1, 3)), ("A", ("S", "A"), (1, 3)),
        ])

    def test_a_start_that_is_not_the_first_head(self):
        rules = rules_of("A 1/2: a\nA 1/2: S S\nS 1/3: a\nS 2/3: A A")
        self.assert_learnt(Grammar("S", rules), [(("a", "a"), 1)], rules_of("A 1: a\nS 1: A A"))
        self.assert_learnt(Grammar("A", rules), [(("a", "a"), 1)], rules_of("A 1: S S\nS 1: a"))

    def test_trees_one_by_one(self):
        seen = 0
        for seed in range(120):
            grammar = made_grammar(seed, ["S", "A", "B"], ["a", "b"], steps=False)
            counted = made_counted(grammar, seed, 5)
            self.assert_learnt(grammar, counted, rules_by_counts(grammar, counts_by_trees(grammar, counted)))
            seen += len(counted)
        self.assertGreater(seen, 100)

    def test_uses_of_made_grammars_with_rings(self):
        seen = 0
        for seed in range(120):
            grammar = made_grammar(seed, ["S", "A", "B"], ["a", "b"])
            counted = made_counted(grammar, seed, 4)
            self.assert_learnt(grammar, counted, rules_by_counts(grammar, counts_by_uses(grammar, counted)))
            seen += len(counted)
        self.assertGreater(seen, 100)

    def test_ten_words(self):
        grammar = grammar_of("S", AMBIGUOUS)
        # Nine branchings, six times a and four times b, twice; and once b.
        counted = [(("a", "b", "a", "a", "b", "b", "a", "b", "a", "a"), 2), (("b",), 1)]
        self.assert_learnt(grammar, counted, rules_of("S 18/39: S S\nS 12/39: a\nS 9/39: b"))
        self.assert_learnt(grammar_of("S", RING), [(("a", "b") * 5, 9)], rules_by_counts(
            grammar_of("S", RING), counts_by_uses(grammar_of("S", RING), [(("a", "b") * 5, 9)])
        ))


class TestRefused(LearningCase):
    def test_whichever_row_it_is(self):
        for text in (AMBIGUOUS, RING):
            grammar = grammar_of("S", text)
            for wrong in (("x",), ("S",), ("a", "S"), ("a", "x", "b"), ("b", "x")):
                for place in range(3):
                    counted = [(("a",), 2), (("b", "b"), 1)]
                    counted.insert(place, (wrong, 1 + place))
                    before = list(counted)
                    self.assert_refused(grammar, counted)
                    self.assertEqual(counted, before)
                self.assert_refused(grammar, [(wrong, 9)])
            self.assertEqual(grammar.rules(), rules_of(text))

    def test_rows_without_a_tree(self):
        grammar = grammar_of("S", "S 1/2: a S b\nS 1/2: a b")
        for row in (("a",), ("b", "a"), ("a", "a", "b"), ("a",) * 10):
            self.assert_refused(grammar, [(row, 1)])
            self.assert_refused(grammar, [(("a", "b"), 1), (row, 1)])

    def test_a_start_that_is_not_live(self):
        for text in ("S 1: S", "S 1: S T\nT 1: a"):
            self.assert_refused(grammar_of("S", text), [(("a",), 1)])


class TestNoLessLikely(LearningCase):
    def test_several_trees_of_a_row(self):
        for text, row in ((AMBIGUOUS, ("a", "b", "b", "a")), (TWO_WAYS, ("a",) * 3), (TWO_WAYS, ("a",) * 2)):
            grammar = grammar_of("S", text)
            self.assertTrue(self.assert_no_less_likely(grammar, [(row, 3)]))
        grammar = grammar_of("S", "S 1/4: A B\nS 3/4: B A\nA 1/3: a\nA 2/3: b\nB 1/2: a\nB 1/2: b")
        for counted in ([(("a", "b"), 5)], [(("a", "b"), 5), (("b", "a"), 1), (("a", "a"), 9)]):
            self.assertTrue(self.assert_no_less_likely(grammar, counted))

    def test_rings(self):
        grammar = grammar_of("S", RING)
        for counted in ([(("a",), 1)], [(("b",), 9)], [(("a", "b"), 2), (("b", "b", "b"), 3), (("a",), 7)]):
            self.assertTrue(self.assert_no_less_likely(grammar, counted))

    def test_again_and_again(self):
        for text in (AMBIGUOUS, RING, "S 1/3: A S\nS 1/3: A\nS 1/3: a A b\nA 1/2: a\nA 1/4: b\nA 1/4: S"):
            grammar = grammar_of("S", text)
            counted = [(("a", "b"), 2), (("a", "b", "b"), 3), (("a",), 1)]
            for _ in range(4):
                self.assert_no_less_likely(grammar, counted)
                grammar = learnt(grammar, counted)

    def test_what_can_not_be_bettered(self):
        grammar = grammar_of("S", "S 1/3: a\nS 2/3: b")
        self.assertFalse(self.assert_no_less_likely(grammar, [(("a",), 1), (("b",), 2)]))
        self.assertFalse(self.assert_no_less_likely(grammar, []))
        for text in (AMBIGUOUS, RING):
            self.assertFalse(self.assert_no_less_likely(grammar_of("S", text), []))

    def test_made_grammars(self):
        more = {True: 0, False: 0}
        for seed in range(200):
            grammar = made_grammar(seed, ["S", "A", "B"], ["a", "b"], steps=seed % 2 == 0)
            counted = made_counted(grammar, seed, 5)
            if counted:
                more[seed % 2 == 0] += self.assert_no_less_likely(grammar, counted)
        self.assertGreater(more[True], 30)
        self.assertGreater(more[False], 30)

    def test_ten_words(self):
        row = ("a", "b", "a", "a", "b", "b", "a", "b", "a", "b")
        for text in (AMBIGUOUS, "S 1/3: S T\nS 1/3: T\nS 1/3: a\nT 1/3: S T\nT 1/3: S\nT 1/3: b"):
            self.assertTrue(self.assert_no_less_likely(grammar_of("S", text), [(row, 2), (row[::-1], 1)]))


class TestLeftAlone(LearningCase):
    def test_arguments(self):
        for asked in (likely, learnt):
            self.assertEqual(list(inspect.signature(asked).parameters), ["grammar", "counted"])
        grammar = grammar_of("S", AMBIGUOUS)
        self.assertEqual(likely(grammar=grammar, counted=[(("a",), 1)]), (1, 4))
        self.assertEqual(learnt(grammar=grammar, counted=[(("a",), 1)]).rules(), [("S", ("a",), ONE)])

    def test_lists_changed_behind_that_change_nothing(self):
        rules = rules_of(RING)
        grammar = Grammar("S", rules)
        counted = [(("a", "b"), 2)]
        found = learnt(grammar, counted)
        asked = rules_of("S 5/13: S T\nS 3/13: T\nS 5/13: a\nT 3/8: S\nT 5/8: b")
        for told in (rules, counted, grammar.rules(), grammar.heads(), found.rules(), found.heads(), found.live()):
            told.clear()
            self.assertEqual(found.rules(), asked)
            self.assertEqual((found.heads(), found.live()), (["S", "T"], ["S", "T"]))
            self.assertEqual(grammar.rules(), rules_of(RING))
        self.assertEqual(learnt(grammar, [(("a", "b"), 2)]).rules(), asked)

    def test_a_grammar_of_no_counted_rows_is_another_one(self):
        grammar = grammar_of("S", RING)
        found = learnt(grammar, [])
        self.assertIsNot(found, grammar)
        found.rules().clear()
        self.assertEqual((found.rules(), grammar.rules()), (rules_of(RING), rules_of(RING)))


if __name__ == "__main__":
    unittest.main()
