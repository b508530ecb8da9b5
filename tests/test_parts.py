"""Points [11] and [12]: sums beyond, parts and uses."""

import inspect
import unittest
from fractions import Fraction

from helping import (
    Case, grammar_of, made_grammar, made_row, nodes_of, pair, partings, rules_of, stretches, sums_from_below, trees_at,
    worth_of,
)
from scoreflow.errors import NoTree
from scoreflow.grammar import Grammar
from scoreflow.parts import Parts
from scoreflow.sums import Sums
from scoreflow.trees import share_of

NOUGHT = (0, 1)
ONE = (1, 1)
HALF = (1, 2)

AMBIGUOUS = "S 1/2: S S\nS 1/4: a\nS 1/4: b"
STRAIGHT = "S 1/3: S\nS 1/3: S S\nS 1/3: a"
RING = "S 1/4: S T\nS 1/2: T\nS 1/4: a\nT 1/3: S\nT 2/3: b"
RING_OF_THREE = "A 1/2: B\nA 1/2: a\nB 1/2: C\nB 1/2: A b\nC 1/2: A\nC 1/2: c A"
SEVERAL = "S 1/5: A A\nS 1/5: A S A\nS 2/5: A A A A\nS 1/5: A b A\nA 1/2: a\nA 1/4: b\nA 1/4: A A"


class Told:
    """What the program tells of a row, as fractions of Python's own."""

    def __init__(self, grammar, row):
        self.grammar, self.row = grammar, row
        self.sums, self.parts = Sums(grammar, row), Parts(grammar, row)
        self.whole = Fraction(*self.sums.whole())

    def within(self, head, i, j):
        return Fraction(*self.sums.within(head, i, j))

    def beyond(self, head, i, j):
        return Fraction(*self.parts.beyond(head, i, j))

    def part(self, head, i, j):
        return Fraction(*self.parts.part(head, i, j))

    def uses(self):
        return [Fraction(*self.parts.uses(number)) for number in range(len(self.grammar.rules()))]

    def is_gone_through(self, rule):
        live = self.grammar.live()
        return rule[0] in live and all(part in live for part in rule[1] if part in self.grammar.heads())

    def round_about(self, symbol, i, j):
        """The sum of [11] over the rules, for a head or a word, without what the start has of itself."""
        total = Fraction(0)
        for rule in filter(self.is_gone_through, self.grammar.rules()):
            for place in [place for place, part in enumerate(rule[1]) if part == symbol]:
                for left, right in stretches(self.row):
                    for parted in partings(left, right, len(rule[1])):
                        if parted[place] == (i, j):
                            total += self.beyond(rule[0], left, right) * self.others(rule, parted, place)
        return total

    def others(self, rule, parted, place):
        product = Fraction(*rule[2])
        for other, (symbol, (left, right)) in enumerate(zip(rule[1], parted)):
            if other != place:
                product *= worth_of(self.sums, self.grammar, self.row, symbol, left, right)
        return product


class PartsCase(Case):
    def assert_beyond(self, told):
        """The equations of [11]. Over live heads they have one solution alone, since sums within have."""
        whole = (told.grammar.start(), 0, len(told.row))
        for i, j in stretches(told.row):
            for head in told.grammar.heads():
                self.assert_share(told.parts.beyond(head, i, j))
                own = 1 if (head, i, j) == whole else 0
                asked = told.round_about(head, i, j) + own if head in told.grammar.live() else 0
                self.assertEqual(told.beyond(head, i, j), asked, (head, i, j))

    def assert_leaves(self, told):
        for place, word in enumerate(told.row):
            self.assertEqual(told.round_about(word, place, place + 1), told.whole, place)

    def assert_parts(self, told):
        for i, j in stretches(told.row):
            for head in told.grammar.heads():
                self.assert_share(told.parts.part(head, i, j))
                asked = told.within(head, i, j) * told.beyond(head, i, j) / told.whole
                self.assertEqual(told.part(head, i, j), asked, (head, i, j))

    def assert_uses(self, told):
        """By the words of [12], and by what follows of them."""
        rules, uses = told.grammar.rules(), told.uses()
        for number, (head, body, share) in enumerate(rules):
            self.assert_share(told.parts.uses(number))
            total = Fraction(0)
            for i, j in stretches(told.row):
                for parted in partings(i, j, len(body)):
                    product = told.beyond(head, i, j) * Fraction(*share)
                    for symbol, (left, right) in zip(body, parted):
                        product *= worth_of(told.sums, told.grammar, told.row, symbol, left, right)
                    total += product
            self.assertEqual(uses[number], total / told.whole, number)
        self.assert_counts(told, uses)

    def assert_counts(self, told, uses):
        rules, heads = told.grammar.rules(), told.grammar.heads()
        words = 0
        for rule, many in zip(rules, uses):
            words += many * len([symbol for symbol in rule[1] if symbol not in heads])
        self.assertEqual(words, len(told.row))
        for head in heads:
            heading = sum(many for rule, many in zip(rules, uses) if rule[0] == head)
            standing = sum(told.part(head, i, j) for i, j in stretches(told.row))
            inner = sum(many * rule[1].count(head) for rule, many in zip(rules, uses))
            self.assertEqual(heading, standing, head)
            self.assertEqual(heading, inner + (1 if head == told.grammar.start() else 0), head)

    def assert_all(self, grammar, row):
        told = Told(grammar, row)
        self.assert_beyond(told)
        self.assert_leaves(told)
        self.assert_parts(told)
        self.assert_uses(told)
        return told.parts

    def assert_averages(self, grammar, row):
        """Parts and uses are the averages over the row's trees, gone through one by one. Tells how many there are."""
        trees = list(trees_at(grammar, row, grammar.start(), 0, len(row)))
        parts, whole = Parts(grammar, row), Fraction(*Sums(grammar, row).whole())
        standing, used = {}, [Fraction(0)] * len(grammar.rules())
        for tree in trees:
            weight = Fraction(*share_of(grammar, tree)) / whole
            for number, i, j in nodes_of(tree, 0):
                used[number] += weight
                key = (grammar.rules()[number][0], i, j)
                standing[key] = standing.get(key, 0) + weight
        for i, j in stretches(row):
            for head in grammar.heads():
                self.assertEqual(parts.part(head, i, j), pair(Fraction(standing.get((head, i, j), 0))), (head, i, j))
        for number, many in enumerate(used):
            self.assertEqual(parts.uses(number), pair(many), number)
        return len(trees)

    def assert_refused(self, grammar, row):
        self.assertEqual(Sums(grammar, row).whole(), NOUGHT)
        self.assert_refusal(NoTree, Parts, grammar, row)


class TestBeyond(PartsCase):
    def test_a_start_that_stands_in_no_body(self):
        grammar = grammar_of("S", "S 1/2: A A\nS 1/4: A b\nS 1/4: B\nA 1/2: a\nA 1/2: A a\nB 1: b a")
        for row in (("a", "a"), ("a", "b"), ("a", "a", "a", "b"), ("b", "a")):
            parts = self.assert_all(grammar, row)
            for i, j in stretches(row):
                asked = ONE if (i, j) == (0, len(row)) else NOUGHT
                self.assertEqual(parts.beyond("S", i, j), asked, (row, i, j))

    def test_by_hand(self):
        parts = self.assert_all(grammar_of("S", "S 1/3: A b\nS 2/3: a B\nA 1/5: a\nA 4/5: c\nB 1: b"), ("a", "b"))
        self.assertEqual(parts.beyond("A", 0, 1), (1, 3))
        self.assertEqual(parts.beyond("B", 1, 2), (2, 3))
        self.assertEqual(parts.beyond("A", 1, 2), NOUGHT)
        self.assertEqual(parts.beyond("B", 0, 1), NOUGHT)
        self.assertEqual(parts.beyond("A", 0, 2), NOUGHT)
        # The whole is 1/15 by way of A and 2/3 by way of B.
        self.assertEqual((parts.part("A", 0, 1), parts.part("B", 1, 2)), ((1, 11), (10, 11)))
        self.assertEqual([parts.uses(number) for number in range(5)], [(1, 11), (10, 11), (1, 11), NOUGHT, (10, 11)])

    def test_a_start_that_branches_into_itself(self):
        parts = self.assert_all(grammar_of("S", AMBIGUOUS), ("a", "b", "a"))
        self.assertEqual(parts.beyond("S", 0, 3), ONE)
        self.assertEqual(parts.beyond("S", 0, 2), (1, 8))
        self.assertEqual(parts.beyond("S", 1, 2), (1, 32))
        self.assertEqual(parts.part("S", 0, 2), HALF)
        self.assertEqual(parts.part("S", 1, 2), ONE)
        self.assertEqual([parts.uses(number) for number in range(3)], [(2, 1), (2, 1), ONE])

    def test_a_start_that_comes_straight_back_to_itself(self):
        for top in range(1, 9):
            share = Fraction(top, 9)
            rules = [("S", ("S",), pair(share)), ("S", ("a",), pair(1 - share))]
            parts = self.assert_all(Grammar("S", rules), ("a",))
            # The sum of 1 and all powers of the share.
            self.assertEqual(parts.beyond("S", 0, 1), pair(1 / (1 - share)))
            self.assertEqual(parts.part("S", 0, 1), pair(1 / (1 - share)))
            self.assertEqual(parts.uses(0), pair(share / (1 - share)))
            self.assertEqual(parts.uses(1), ONE)

    def test_a_start_that_comes_back_to_itself_at_all_of_a_longer_row(self):
        for row in (("a",), ("a",) * 2, ("a",) * 5):
            parts = self.assert_all(grammar_of("S", STRAIGHT), row)
            self.assertEqual(parts.beyond("S", 0, len(row)), (3, 2))

    def test_a_start_in_a_ring(self):
        for row in (("a",), ("b",), ("a", "b"), ("b", "a", "b", "b")):
            parts = self.assert_all(grammar_of("S", RING), row)
            # Rounds of 1/2 times 1/3.
            self.assertEqual(parts.beyond("S", 0, len(row)), (6, 5))
            self.assertEqual(parts.beyond("T", 0, len(row)), (3, 5))
        for row in (("a",), ("c", "a"), ("a", "b")):
            parts = self.assert_all(grammar_of("A", RING_OF_THREE), row)
            beyond = [parts.beyond(head, 0, len(row)) for head in "ABC"]
            self.assertEqual(beyond, [(8, 7), (4, 7), (2, 7)])

    def test_rings_beside_the_start(self):
        grammar = grammar_of("S", "S 1: A B\nA 1/2: B\nA 1/2: a\nB 1/3: A\nB 1/3: B\nB 1/3: b")
        parts = self.assert_all(grammar, ("a", "b"))
        self.assertEqual(parts.beyond("S", 0, 2), ONE)
        self.assertEqual((parts.beyond("A", 0, 2), parts.beyond("B", 0, 2)), (NOUGHT, NOUGHT))

    def test_a_ring_of_nearly_all_shares(self):
        bottom = 10 ** 60 - 11
        rules = [("S", ("S",), (bottom - 2, bottom)), ("S", ("a",), (1, bottom)), ("S", ("b",), (1, bottom))]
        parts = self.assert_all(Grammar("S", rules), ("a",))
        self.assertEqual(parts.beyond("S", 0, 1), pair(Fraction(bottom, 2)))
        self.assertEqual(parts.uses(0), pair(Fraction(bottom - 2, 2)))

    def test_a_head_several_times_in_one_body(self):
        grammar = grammar_of("S", SEVERAL)
        for row in (("a", "b"), ("a", "a", "b", "a"), ("a", "b", "a", "b", "a"), ("b",) * 6):
            self.assert_all(grammar, row)
        parts = self.assert_all(grammar_of("S", "S 1: A A\nA 1/2: a\nA 1/2: a a"), ("a", "a", "a"))
        told = {(0, 1): HALF, (1, 3): HALF, (0, 2): HALF, (2, 3): HALF}
        for i, j in stretches(("a",) * 3):
            self.assertEqual(parts.beyond("A", i, j), told.get((i, j), NOUGHT), (i, j))
        parts = self.assert_all(grammar_of("S", "S 1: A A A A\nA 1: a"), ("a",) * 4)
        for place in range(4):
            self.assertEqual(parts.beyond("A", place, place + 1), ONE)
        self.assertEqual(parts.uses(1), (4, 1))

    def test_heads_that_are_not_live(self):
        grammar = grammar_of("S", """
            S 1/4: N
            S 1/4: S N
            S 1/4: A S
            S 1/4: a
            N 1/2: N
            N 1/2: S N
            A 1/2: N a
            A 1/2: b
            M 1: S M
        """)
        for row in (("a",), ("b", "a"), ("b", "b", "b", "a")):
            parts = self.assert_all(grammar, row)
            for i, j in stretches(row):
                for head in "NM":
                    self.assertEqual(parts.beyond(head, i, j), NOUGHT)
                    self.assertEqual(parts.part(head, i, j), NOUGHT)
            self.assertEqual([parts.uses(number) for number in (0, 1, 4, 5, 6, 8)], [NOUGHT] * 6)

    def test_live_heads_in_a_body_with_one_that_is_not_live(self):
        grammar = grammar_of("S", "S 1/2: A N\nS 1/2: a\nA 1/2: a\nA 1/2: N A\nN 1: N")
        parts = self.assert_all(grammar, ("a",))
        self.assertEqual(parts.beyond("A", 0, 1), NOUGHT)
        grammar = grammar_of("S", "S 1/3: N\nS 1/3: A\nS 1/3: a\nA 1: a\nN 1/2: N\nN 1/2: A")
        # Here N is live; without its second rule it would not be.
        self.assertEqual(self.assert_all(grammar, ("a",)).beyond("A", 0, 1), (2, 3))
        grammar = grammar_of("S", "S 1/3: N\nS 1/3: A\nS 1/3: a\nA 1: a\nN 1/2: N\nN 1/2: A N")
        self.assertEqual(self.assert_all(grammar, ("a",)).beyond("A", 0, 1), (1, 3))

    def test_live_heads_that_no_tree_of_the_row_has(self):
        parts = self.assert_all(grammar_of("S", "S 1/3: A\nS 2/3: b\nA 1: a"), ("b",))
        self.assertEqual((parts.beyond("A", 0, 1), parts.part("A", 0, 1)), ((1, 3), NOUGHT))
        grammar = grammar_of("S", "S 1/4: A b\nS 1/4: b A\nS 1/2: b b\nA 1: a\nB 1: S b")
        parts = self.assert_all(grammar, ("b", "b"))
        self.assertEqual((parts.beyond("A", 0, 1), parts.beyond("A", 1, 2)), ((1, 4), (1, 4)))
        for i, j in stretches(("b", "b")):
            self.assertEqual(parts.beyond("B", i, j), NOUGHT)

    def test_a_start_that_is_not_the_first_head(self):
        rules = rules_of("A 1/2: a\nA 1/2: S S\nS 1/3: a\nS 1/3: A A\nS 1/3: A")
        for start in "AS":
            for many in (1, 2, 4):
                self.assert_all(Grammar(start, rules), ("a",) * many)

    def test_made_grammars(self):
        kinds = {"rings": 0, "not live": 0, "several": 0, "beyond but not within": 0}
        for seed in range(600):
            heads = ["S", "A", "B", "C"][:2 + seed % 3]
            grammar = made_grammar(seed, heads, ["a", "b"])
            row = made_row(seed, 1 + seed % 5, ["a", "b"])
            if Sums(grammar, row).whole() == NOUGHT:
                continue
            parts = self.assert_all(grammar, row)
            sums = Sums(grammar, row)
            kinds["rings"] += parts.beyond("S", 0, len(row)) != ONE
            kinds["not live"] += len(grammar.live()) < len(heads)
            kinds["several"] += len(row) > 3
            kinds["beyond but not within"] += any(
                parts.beyond(head, i, j) != NOUGHT and sums.within(head, i, j) == NOUGHT
                for head in heads for i, j in stretches(row)
            )
        for kind, many in kinds.items():
            self.assertGreater(many, 10, kind)

    def test_ten_words(self):
        row = ("a", "b", "a", "a", "b", "b", "a", "b", "a", "b")
        self.assert_all(grammar_of("S", RING), row)
        self.assert_all(grammar_of("S", AMBIGUOUS), row)

    def test_rows_somewhat_beyond_ten_words(self):
        grammar = grammar_of("S", "S 1/2: a S\nS 1/2: a")
        for many in (11, 13):
            parts = Parts(grammar, ("a",) * many)
            for place in range(many):
                self.assertEqual(parts.beyond("S", place, many), (1, 2 ** place))
            self.assertEqual((parts.uses(0), parts.uses(1)), ((many - 1, 1), ONE))


class TestAverages(PartsCase):
    def test_trees_one_by_one(self):
        self.assertEqual(self.assert_averages(grammar_of("S", AMBIGUOUS), ("a", "b", "b", "a", "a")), 14)
        self.assertGreater(self.assert_averages(grammar_of("S", SEVERAL), ("a", "b", "a", "b", "a")), 20)
        grammar = grammar_of("S", "S 1/2: a S b\nS 1/4: S S\nS 1/4: a b")
        self.assertEqual(self.assert_averages(grammar, ("a", "b") * 5), 14)

    def test_steps_without_rings(self):
        grammar = grammar_of("S", "S 1/2: A\nS 1/4: B\nS 1/4: S S\nA 1/3: B\nA 2/3: a\nB 1/5: b\nB 4/5: a")
        self.assertGreater(self.assert_averages(grammar, ("a", "b", "a")), 30)

    def test_trees_of_made_grammars_one_by_one(self):
        seen = 0
        for seed in range(200):
            grammar = made_grammar(seed, ["S", "A", "B"], ["a", "b"], steps=False)
            for row in [made_row(seed, length, ["a", "b"]) for length in range(1, 6)]:
                if Sums(grammar, row).whole() != NOUGHT:
                    seen += self.assert_averages(grammar, row)
        self.assertGreater(seen, 500)

    def test_uses_tell_how_the_whole_grows_with_a_share(self):
        """Where trees are without end: a whole that a share stands in so many times grows so many times as fast."""
        seen = 0
        for seed in range(60):
            grammar = made_grammar(seed, ["S", "A", "B"], ["a", "b"])
            row = made_row(seed, 1 + seed % 4, ["a", "b"])
            if Sums(grammar, row).whole() == NOUGHT:
                continue
            parts = Parts(grammar, row)
            rules = [(head, body, share[0] / share[1]) for head, body, share in grammar.rules()]
            for number, (head, body, share) in enumerate(rules):
                wholes = []
                for factor in (1 - 1e-4, 1, 1 + 1e-4):
                    changed = rules[:number] + [(head, body, share * factor)] + rules[number + 1:]
                    wholes.append(sums_from_below(grammar.heads(), changed, row, 600)["S", 0, len(row)])
                growth = (wholes[2] - wholes[0]) / (2e-4 * wholes[1])
                told = float(Fraction(*parts.uses(number)))
                self.assertLess(abs(growth - told), 1e-4 * (1 + told ** 3), (seed, number))
                seen += told > 1
        self.assertGreater(seen, 20)


class TestRefused(PartsCase):
    def test_rows_without_a_tree(self):
        grammar = grammar_of("S", "S 1/2: a S b\nS 1/2: a b")
        for row in (("a",), ("b", "a"), ("a", "a", "b"), ("a", "b") * 2, ("a",) * 10):
            self.assert_refused(grammar, row)
        self.assert_refused(grammar_of("S", "S 1: A b\nA 1: a"), ("a",))

    def test_symbols_that_the_grammar_does_not_have(self):
        for text in (AMBIGUOUS, STRAIGHT):
            for row in (("x",), ("a", "x"), ("x", "a", "a"), ("A",), ("a", "A", "a")):
                self.assert_refused(grammar_of("S", text), row)

    def test_heads_in_a_row(self):
        grammar = grammar_of("S", RING)
        for row in (("S",), ("T",), ("a", "T"), ("S", "b"), ("a", "S", "b")):
            self.assert_refused(grammar, row)
        self.assert_refused(grammar_of("S", "S 1/2: N a\nS 1/2: a\nN 1: N"), ("N", "a"))

    def test_a_start_that_is_not_live(self):
        for text in ("S 1: S", "S 1: S a", "S 1: T\nT 1: S", "S 1: S T\nT 1: a",
                     "S 1: N\nN 1/2: N N\nN 1/2: T N\nT 1: a"):
            for row in (("a",), ("a", "a"), ("S",)):
                self.assert_refused(grammar_of("S", text), row)

    def test_a_row_of_another_head(self):
        self.assert_refused(grammar_of("S", "A 1: a\nS 1: b"), ("a",))

    def test_no_words(self):
        self.assert_refused(grammar_of("S", AMBIGUOUS), ())


class TestLeftAlone(PartsCase):
    def test_arguments(self):
        self.assertEqual(list(inspect.signature(Parts).parameters), ["grammar", "row"])
        parts = Parts(grammar=grammar_of("S", "S 1: a"), row=("a",))
        self.assertEqual(list(inspect.signature(parts.beyond).parameters), ["head", "i", "j"])
        self.assertEqual(list(inspect.signature(parts.part).parameters), ["head", "i", "j"])
        self.assertEqual(list(inspect.signature(parts.uses).parameters), ["rule"])
        told = (parts.beyond(head="S", i=0, j=1), parts.part(head="S", i=0, j=1), parts.uses(rule=0))
        self.assertEqual(told, (ONE, ONE, ONE))

    def test_asked_again_and_in_another_order(self):
        grammar, row = grammar_of("S", RING), ("a", "b", "b")
        one, other = Parts(grammar, row), Parts(grammar, row)
        places = [(head, i, j) for head in "ST" for i, j in stretches(row)]
        told = [(one.beyond(*place), one.part(*place)) for place in places]
        uses = [one.uses(number) for number in range(5)]
        self.assertEqual([other.uses(number) for number in range(4, -1, -1)], uses[::-1])
        self.assertEqual([(other.beyond(*place), other.part(*place)) for place in places[::-1]], told[::-1])
        self.assertEqual([(one.beyond(*place), one.part(*place)) for place in places], told)
        self.assertEqual([one.uses(number) for number in range(5)], uses)

    def test_lists_changed_behind_that_change_nothing(self):
        rules = rules_of(RING)
        grammar = Grammar("S", rules)
        parts = Parts(grammar, ("a",))
        for told in (rules, grammar.rules(), grammar.heads(), grammar.live()):
            told.clear()
            for asked in (parts, Parts(grammar, ("a",))):
                self.assertEqual((asked.beyond("S", 0, 1), asked.beyond("T", 0, 1)), ((6, 5), (3, 5)))
                self.assertEqual([asked.uses(number) for number in (1, 2, 3)], [(1, 5), ONE, (1, 5)])
        self.assertEqual(grammar.rules(), rules_of(RING))


if __name__ == "__main__":
    unittest.main()
