"""Points [5] and [6]: grammars and live heads; and what [1] says of lists that are handed in and told."""

import inspect
import unittest
from fractions import Fraction

from helping import Case, grammar_of, made_grammar, pair, rules_of
from scoreflow.errors import NoGrammar
from scoreflow.grammar import Grammar

ONE = (1, 1)
HALF = (1, 2)
LETTERS = "abcdefghijklmnopqrstuvwxyzABCDEFGHIJKLMNOPQRSTUVWXYZ"

NO_SYMBOLS = [
    "", "abcdefghi", "abcdefghijklmnopq", "a1", "1", "7a", " ", "a b", " a", "a ", "a-", "-", "_", "a_b", "a.", "$",
    "@", "[", "`", "{", "~", "/", ":", "a:", "a\n", "\n", "\na", "a\nb", "abcdefgh\n", "'a'", "(a)", "a,b",
]


def equal_rules(many, head="S"):
    """So many rules of one head, with equal shares and unlike bodies."""
    return [(head, (LETTERS[k % 26], LETTERS[k // 26]), pair(Fraction(1, many))) for k in range(many)]


class GrammarCase(Case):
    def assert_refused(self, start, rules, said=None):
        with self.subTest(said):
            self.assert_refusal(NoGrammar, Grammar, start, rules)

    def assert_taken(self, start, rules, heads):
        grammar = Grammar(start, rules)
        self.assertEqual(grammar.start(), start)
        self.assertEqual(grammar.rules(), rules)
        self.assertEqual(grammar.heads(), heads)


class TestTaken(GrammarCase):
    def test_one_rule(self):
        self.assert_taken("S", [("S", ("a",), ONE)], ["S"])

    def test_several_heads_in_the_order_in_which_they_head_rules_first(self):
        rules = rules_of("""
            C 1/3: a
            A 1: B C
            C 2/3: B
            B 1/2: A
            B 1/2: b
        """)
        for start in "ABC":
            self.assert_taken(start, rules, ["C", "A", "B"])

    def test_a_head_in_an_earlier_body_is_no_earlier_head(self):
        self.assert_taken("S", rules_of("S 1: Z A\nA 1: a\nZ 1: z"), ["S", "A", "Z"])

    def test_thirty_rules_of_one_head(self):
        self.assert_taken("S", equal_rules(30), ["S"])

    def test_each_count_of_rules(self):
        for many in range(1, 31):
            self.assert_taken("S", equal_rules(many), ["S"])

    def test_thirty_heads(self):
        heads = [LETTERS[k] for k in range(30)]
        self.assert_taken(heads[7], [(head, ("word",), ONE) for head in heads], heads)

    def test_each_letter_is_a_symbol(self):
        for letter in LETTERS:
            for text in (letter, letter * 8, "xY" + letter):
                self.assert_taken(text, [(text, ("word",), ONE)], [text])
                self.assert_taken("WORD", [("WORD", (text,), ONE)], ["WORD"])

    def test_symbols_of_one_to_eight_letters(self):
        for many in range(1, 9):
            self.assert_taken("H" * many, [("H" * many, ("w" * many, "H" * many), ONE)], ["H" * many])

    def test_small_and_great_letters_are_different_ones(self):
        rules = [("a", ("A",), ONE), ("A", ("B", "b"), HALF), ("A", ("b", "B"), HALF)]
        self.assert_taken("a", rules, ["a", "A"])
        self.assert_taken("s", [("s", ("S",), ONE)], ["s"])
        self.assert_taken("S", [("S", ("aB",), HALF), ("S", ("Ab",), HALF)], ["S"])

    def test_bodies_of_one_to_four_symbols(self):
        for many in range(1, 5):
            self.assert_taken("S", [("S", ("a",) * many, ONE)], ["S"])
            self.assert_taken("S", [("S", ("S",) * many, ONE)], ["S"])
        self.assert_taken("S", [("S", ("a",) * many, (1, 4)) for many in range(1, 5)], ["S"])

    def test_a_body_that_is_its_own_head(self):
        self.assert_taken("S", [("S", ("S",), HALF), ("S", ("a",), HALF)], ["S"])
        self.assert_taken("S", [("S", ("a",), (1, 1000)), ("S", ("S",), (999, 1000))], ["S"])

    def test_same_body_of_other_heads_and_same_symbols_in_another_order(self):
        rules = rules_of("""
            S 1/2: a b
            S 1/2: b a
            T 1/2: a b
            T 1/2: b a
        """)
        self.assert_taken("T", rules, ["S", "T"])
        rules = [("S", ("ab", "c"), HALF), ("S", ("a", "bc"), HALF)]
        self.assert_taken("S", rules, ["S"])

    def test_shares_add_up_exactly(self):
        bottom = 10 ** 60 - 11
        rules = [("S", ("a",), (1, bottom)), ("S", ("b",), (bottom - 1, bottom))]
        self.assert_taken("S", rules, ["S"])
        rules = [("S", ("a",), (1, 3)), ("S", ("b",), (1, 6)), ("S", ("c",), (1, 7)), ("S", ("d",), (5, 14))]
        self.assert_taken("S", rules, ["S"])

    def test_arguments(self):
        self.assertEqual(list(inspect.signature(Grammar).parameters), ["start", "rules"])
        grammar = Grammar(start="S", rules=[("S", ("a",), ONE)])
        for method in (grammar.start, grammar.rules, grammar.heads, grammar.live):
            self.assertEqual(list(inspect.signature(method).parameters), [])


class TestRefused(GrammarCase):
    def test_a_start_that_is_no_symbol(self):
        for text in NO_SYMBOLS:
            self.assert_refused(text, [("S", ("a",), ONE)], text)
            self.assert_refused(text, [(text, ("a",), ONE)], text)

    def test_a_head_that_is_no_symbol(self):
        for text in NO_SYMBOLS:
            self.assert_refused("S", [("S", ("a",), ONE), (text, ("a",), ONE)], text)
            self.assert_refused("S", [(text, ("a",), ONE), ("S", ("a",), ONE)], text)

    def test_a_symbol_of_a_body_that_is_no_symbol(self):
        for text in NO_SYMBOLS:
            for many in range(1, 5):
                for place in range(many):
                    body = ("a",) * place + (text,) + ("a",) * (many - place - 1)
                    self.assert_refused("S", [("S", body, ONE)], body)
            self.assert_refused("S", [("S", ("a",), ONE), ("T", (text,), ONE)], text)

    def test_each_sign_that_is_no_letter(self):
        for sign in [chr(number) for number in range(32, 127)] + ["\n"]:
            if sign not in LETTERS:
                for text in (sign, "a" + sign, sign + "a", "a" + sign + "b"):
                    self.assert_refused(text, [(text, ("a",), ONE)], text)
                    self.assert_refused("S", [("S", (text,), ONE)], text)

    def test_a_start_that_is_no_head(self):
        self.assert_refused("T", [("S", ("a",), ONE)])
        self.assert_refused("a", [("S", ("a",), ONE)])
        self.assert_refused("s", [("S", ("s",), ONE)])
        self.assert_refused("SS", [("S", ("SS",), ONE)])

    def test_bodies_of_no_symbols_and_of_more_than_four(self):
        for body in ((), ("a",) * 5, ("a", "b", "c", "d", "e"), ("a",) * 6, ("S",) * 5):
            self.assert_refused("S", [("S", body, ONE)], body)
            self.assert_refused("S", [("S", ("a",), HALF), ("S", body, HALF)], body)
            self.assert_refused("S", [("S", ("a",), ONE), ("T", body, ONE)], body)

    def test_a_share_of_nought(self):
        self.assert_refused("S", [("S", ("a",), (0, 1))])
        self.assert_refused("S", [("S", ("a",), (0, 1)), ("S", ("b",), ONE)])
        self.assert_refused("S", [("S", ("b",), ONE), ("S", ("a",), (0, 1))])
        self.assert_refused("S", [("S", ("b",), ONE), ("T", ("a",), ONE), ("T", ("b",), (0, 1))])

    def test_sums_below_and_above_one(self):
        bottom = 10 ** 60 - 11
        for wrong in (HALF, (2, 1), (3, 2), (bottom - 1, bottom), (bottom + 1, bottom), (1, bottom)):
            self.assert_refused("S", [("S", ("a",), wrong)], wrong)
            self.assert_refused("S", [("S", ("a",), ONE), ("T", ("a",), wrong)], wrong)
            self.assert_refused("S", [("T", ("a",), wrong), ("S", ("a",), ONE)], wrong)
        self.assert_refused("S", [("S", ("a",), HALF), ("S", ("b",), (1, 3))])
        self.assert_refused("S", [("S", ("a",), HALF), ("S", ("b",), (2, 3))])
        self.assert_refused("S", [("S", ("a",), ONE), ("S", ("b",), ONE)])
        self.assert_refused("S", [("S", ("a",), HALF), ("T", ("b",), HALF)])
        self.assert_refused("S", [("S", ("a",), HALF), ("T", ("b",), (3, 2))])

    def test_doubles(self):
        self.assert_refused("S", [("S", ("a",), HALF), ("S", ("a",), HALF)])
        self.assert_refused("S", [("S", ("a",), (1, 3)), ("S", ("a",), (2, 3))])
        self.assert_refused("S", [("S", ("a",), (1, 3)), ("S", ("b",), (1, 3)), ("S", ("a",), (1, 3))])
        self.assert_refused("S", [("S", ("a", "b", "S"), (1, 3)), ("S", ("a", "b", "S"), (2, 3))])
        rules = [("S", ("a",), ONE), ("T", ("S",), (1, 4)), ("T", ("T",), HALF), ("T", ("S",), (1, 4))]
        self.assert_refused("S", rules)

    def test_counts_of_rules(self):
        self.assert_refused("S", [])
        for many in (31, 32, 40, 60):
            self.assert_refused("S", equal_rules(many), many)
        self.assert_refused("a", [(LETTERS[k], ("word",), ONE) for k in range(31)])

    def test_refused_rules_stay_as_they_are(self):
        for rules in ([], equal_rules(31), [("S", ("a",), HALF)], [("S", (), ONE)]):
            before = list(rules)
            self.assert_refused("S", rules)
            self.assertEqual(rules, before)


class TestLists(GrammarCase):
    TEXT = """
        S 1/2: A S
        S 1/2: a
        A 2/3: S
        A 1/3: N
        N 1: N N
    """

    def assert_told(self, grammar):
        self.assertEqual(grammar.start(), "S")
        self.assertEqual(grammar.rules(), rules_of(self.TEXT))
        self.assertEqual(grammar.heads(), ["S", "A", "N"])
        self.assertEqual(grammar.live(), ["S", "A"])

    def test_kinds(self):
        grammar = grammar_of("S", self.TEXT)
        self.assertIs(type(grammar.start()), str)
        for told in (grammar.rules(), grammar.heads(), grammar.live()):
            self.assertIs(type(told), list)
        for rule in grammar.rules():
            self.assertEqual([type(part) for part in rule], [str, tuple, tuple])

    def test_what_is_handed_in_stays_as_it_is(self):
        rules = rules_of(self.TEXT)
        parts = list(rules)
        self.assert_told(Grammar("S", rules))
        self.assertEqual(rules, rules_of(self.TEXT))
        for rule, same in zip(rules, parts):
            self.assertIs(rule, same)

    def test_changing_what_was_handed_in_changes_nothing(self):
        rules = rules_of(self.TEXT)
        grammar = Grammar("S", rules)
        rules[0] = ("X", ("x",), ONE)
        rules.append(("Y", ("y",), ONE))
        self.assert_told(grammar)
        rules.clear()
        self.assert_told(grammar)

    def test_changing_what_was_told_changes_nothing(self):
        rules = rules_of(self.TEXT)
        grammar = Grammar("S", rules)
        for ask in (grammar.rules, grammar.heads, grammar.live):
            told = ask()
            self.assertIsNot(told, ask())
            told.reverse()
            told.append("X")
            self.assert_told(grammar)
            told.clear()
            self.assert_told(grammar)
        self.assertEqual(rules, rules_of(self.TEXT))

    def test_two_grammars_of_one_list(self):
        rules = rules_of(self.TEXT)
        one, other = Grammar("S", rules), Grammar("A", rules)
        one.rules().clear()
        self.assert_told(one)
        self.assertEqual((one.start(), other.start()), ("S", "A"))
        self.assertEqual(other.rules(), rules)


class TestLive(GrammarCase):
    def assert_live(self, text, live):
        rules = rules_of(text)
        for start in dict.fromkeys(rule[0] for rule in rules):
            self.assertEqual(Grammar(start, rules).live(), live)
            self.assertEqual(Grammar(start, list(reversed(rules))).live(), [
                head for head in Grammar(start, list(reversed(rules))).heads() if head in live
            ])

    def test_a_rule_to_words(self):
        self.assert_live("S 1: a", ["S"])
        self.assert_live("S 1: a b c d", ["S"])

    def test_heads_that_lead_to_themselves_alone(self):
        self.assert_live("S 1: S", [])
        self.assert_live("S 1: S S", [])
        self.assert_live("S 1: a S", [])
        self.assert_live("S 1/2: S a\nS 1/2: S", [])
        self.assert_live("N 1: N\nS 1: a", ["S"])
        self.assert_live("S 1: a\nN 1: a N", ["S"])

    def test_heads_that_lead_to_one_another_alone(self):
        self.assert_live("S 1: T\nT 1: S", [])
        self.assert_live("S 1: a T\nT 1: S b\nU 1: u", ["U"])
        self.assert_live("S 1: T\nT 1: U\nU 1: S", [])
        self.assert_live("S 1/2: T\nS 1/2: a\nT 1: S", ["S", "T"])

    def test_a_way_out_of_a_ring(self):
        self.assert_live("S 1/2: S\nS 1/2: a", ["S"])
        self.assert_live("S 1: T\nT 1: U\nU 1/2: S\nU 1/2: a", ["S", "T", "U"])

    def test_live_by_way_of_later_heads(self):
        self.assert_live("S 1: A\nA 1: B\nB 1: C\nC 1: D\nD 1: a", ["S", "A", "B", "C", "D"])
        self.assert_live("S 1: A B\nA 1: B C\nB 1: C b\nC 1: a", ["S", "A", "B", "C"])
        lines = [f"{LETTERS[k]} 1: {LETTERS[k + 1]}" for k in range(29)] + ["D 1: word"]
        self.assert_live("\n".join(lines), [LETTERS[k] for k in range(30)])

    def test_a_body_needs_each_of_its_heads(self):
        self.assert_live("S 1: A N\nA 1: a\nN 1: N", ["A"])
        self.assert_live("S 1: N A\nA 1: a\nN 1: N", ["A"])
        self.assert_live("S 1: a A b N\nA 1: a\nN 1: N", ["A"])
        self.assert_live("S 1/2: N\nS 1/2: A\nA 1: a\nN 1: N", ["S", "A"])

    def test_a_start_that_is_not_live(self):
        grammar = grammar_of("S", "S 1: S T\nT 1: t")
        self.assertEqual((grammar.start(), grammar.live()), ("S", ["T"]))
        self.assertEqual(grammar_of("S", "S 1: S").live(), [])

    def test_in_the_order_of_heads(self):
        self.assert_live("Z 1: A\nN 1: N\nM 1: z\nA 1: M\nB 1: N M", ["Z", "M", "A"])

    def test_just_those_of_which_a_row_of_words_comes(self):
        """By going through the rows of words themselves, up to a depth that is enough for five heads."""
        seen = {}
        for seed in range(150):
            grammar = made_grammar(seed, ["S", "A", "B", "C", "D"], ["a"])
            shortest = {}
            for _ in range(5):
                found = dict(shortest)
                for head, body, _ in grammar.rules():
                    if all(symbol in shortest for symbol in body if symbol in grammar.heads()):
                        row = sum([shortest.get(symbol, (symbol,)) for symbol in body], ())
                        found.setdefault(head, row)
                shortest = found
            for row in shortest.values():
                self.assertFalse(set(row) & set(grammar.heads()))
            self.assertEqual(grammar.live(), [head for head in grammar.heads() if head in shortest])
            seen[len(grammar.live())] = True
        self.assertGreater(len(seen), 3)


if __name__ == "__main__":
    unittest.main()
