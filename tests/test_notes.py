"""Point [16]: grammars written as texts, and read from them."""

import inspect
import unittest
from fractions import Fraction

from helping import Case, grammar_of, made_grammar, pair, rules_of
from scoreflow.errors import NoGrammar, NoText
from scoreflow.grammar import Grammar
from scoreflow.learning import learnt
from scoreflow.notes import read, written

ONE = (1, 1)
HALF = (1, 2)
LETTERS = "abcdefghijklmnopqrstuvwxyzABCDEFGHIJKLMNOPQRSTUVWXYZ"
SIXTY = 10 ** 60 - 11

# A text that is read, row by row, to put wrong rows in.
START = "start S"
RULES = ["S 1/2: A S", "S 1/2: a", "A 2/3: a b c d", "A 1/3: N", "N 1/1: N N"]
TEXT = "\n".join([START] + RULES)

NO_SYMBOLS = [
    "", "abcdefghi", "abcdefghijklmnop", "a1", "1", "7a", "a-", "-", "_", "a_b", "a.", "$", "@", "[", "`", "{", "~",
    "/", "a/b", ":", "a:", ":a", "'a'", "(a)", "a,b", "1/2", "1/2:", "\"", "|",
]
NO_NUMBERS = [
    "", "0", "00", "01", "007", "+1", "-1", "+2", "-2", "1.", "1.0", ".5", "1e2", "1_0", "x", "a", "1a", "0x1", "1,0",
    "'1'", "(1)", "1" * 61, "1" + "0" * 60, "9" * 70, "1" * 5000, "0" + "1" * 59, "/", "1/", "~", "!",
]


def equal_rows(many):
    """So many rows of one head, with equal shares and unlike bodies."""
    return [f"S 1/{many}: {LETTERS[k % 26]} {LETTERS[k // 26]}" for k in range(many)]


class NotesCase(Case):
    def assert_same(self, grammar):
        text = written(grammar)
        self.assertIs(type(text), str)
        found = read(text)
        self.assertIs(type(found), Grammar)
        self.assertIsNot(found, grammar)
        self.assertEqual((found.start(), found.rules()), (grammar.start(), grammar.rules()))
        self.assertEqual((found.heads(), found.live()), (grammar.heads(), grammar.live()))
        self.assertEqual(written(found), text)

    def assert_refused(self, refusal, *rows):
        self.assert_refusal(refusal, read, "\n".join(rows))

    def assert_no_rule(self, row):
        """A row that is none of the second form: wherever it stands, and whatever the other rows would make."""
        self.assert_refused(NoText, START, row)
        self.assert_refused(NoText, START, row, *RULES)
        self.assert_refused(NoText, START, *RULES[:2], row, *RULES[2:])
        self.assert_refused(NoText, START, *RULES, row)
        self.assert_refused(NoText, "start X", row, "S 1/3: a")
        self.assert_refused(NoText, START, *equal_rows(31), row)


class TestWritten(NotesCase):
    def test_just_the_text(self):
        self.assertEqual(written(grammar_of("S", "S 1: a")), "start S\nS 1/1: a")
        self.assertEqual(written(Grammar("S", rules_of("S 1/2: A S\nS 1/2: a\nA 1: a b c d"))),
                         "start S\nS 1/2: A S\nS 1/2: a\nA 1/1: a b c d")
        self.assertEqual(written(read(TEXT)), TEXT)

    def test_a_start_that_is_not_the_first_head_and_rules_in_their_order(self):
        rules = rules_of("B 1/3: a\nS 1: B\nA 1: b\nB 2/3: S A")
        for start in "ABS":
            text = f"start {start}\nB 1/3: a\nS 1/1: B\nA 1/1: b\nB 2/3: S A"
            self.assertEqual(written(Grammar(start, rules)), text)
            self.assertEqual((read(text).start(), read(text).rules()), (start, rules))

    def test_long_shares(self):
        rules = [("S", ("a",), (SIXTY - 1, SIXTY)), ("S", ("b",), (1, SIXTY))]
        nines = "9" * 58
        self.assertEqual(written(Grammar("S", rules)), f"start S\nS {nines}88/{nines}89: a\nS 1/{nines}89: b")

    def test_no_line_feed_at_its_end(self):
        for seed in range(30):
            grammar = made_grammar(seed, ["S", "A", "B"], ["a", "b"])
            text = written(grammar)
            self.assertFalse(text.endswith("\n"))
            self.assertEqual(text.count("\n"), len(grammar.rules()))
            self.assertNotIn("  ", text)


class TestSame(NotesCase):
    def test_made_grammars(self):
        for seed in range(100):
            self.assert_same(made_grammar(seed, ["S", "A", "B", "C"], ["a", "b", "word"]))

    def test_sixty_figures_above_and_below(self):
        self.assertEqual(len(str(SIXTY)), 60)
        for top in (1, 2, SIXTY // 2, SIXTY - 2, SIXTY - 1):
            share = Fraction(top, SIXTY)
            self.assert_same(Grammar("S", [("S", ("a",), pair(share)), ("S", ("S", "a"), pair(1 - share))]))

    def test_each_count_of_rules_and_of_symbols(self):
        for many in range(1, 31):
            self.assert_same(read("\n".join([START] + equal_rows(many))))
        for many in range(1, 5):
            self.assert_same(Grammar("S", [("S", ("word",) * many, ONE)]))

    def test_symbols_of_one_to_eight_letters(self):
        for letter in LETTERS:
            for text in (letter, letter * 8, "xY" + letter):
                self.assert_same(Grammar(text, [(text, ("word",), ONE)]))
                self.assert_same(Grammar("WORD", [("WORD", (text,), ONE)]))

    def test_a_head_and_words_called_start(self):
        grammar = Grammar("start", [("start", ("start", "start"), HALF), ("start", ("a",), HALF)])
        self.assertEqual(written(grammar), "start start\nstart 1/2: start start\nstart 1/2: a")
        self.assert_same(grammar)
        self.assert_same(Grammar("S", [("S", ("start",), ONE), ("start", ("S",), ONE)]))
        self.assert_same(Grammar("S", [("start", ("S",), ONE), ("S", ("start",), ONE)]))

    def test_what_was_learnt(self):
        grammar = grammar_of("S", "S 1/4: S T\nS 1/2: T\nS 1/4: a\nT 1/3: S\nT 2/3: b")
        self.assert_same(learnt(grammar, [(("a", "b"), 2), (("b",), 1)]))

    def test_shares_above_one_are_read_but_make_no_grammar(self):
        self.assert_refused(NoGrammar, START, "S 3/2: a")
        self.assert_refused(NoGrammar, START, "S 2/1: a")

    def test_read_by_hand(self):
        found = read(TEXT)
        self.assertEqual(found.start(), "S")
        self.assertEqual(found.rules(), [
            ("S", ("A", "S"), HALF), ("S", ("a",), HALF), ("A", ("a", "b", "c", "d"), (2, 3)),
            ("A", ("N",), (1, 3)), ("N", ("N", "N"), ONE),
        ])
        for head, body, share in found.rules():
            self.assertEqual((type(head), type(body), type(share)), (str, tuple, tuple))
            self.assertEqual([type(number) for number in share], [int, int])
        self.assertEqual((found.heads(), found.live()), (["S", "A", "N"], ["S", "A"]))


class TestFirstRow(NotesCase):
    def test_the_empty_text(self):
        self.assert_refused(NoText, "")

    def test_another_form(self):
        wrong = [
            "start", "start ", " start S", "start  S", "start S ", "start S T", "start S S", "Start S", "START S",
            "starts S", "star S", "startS", "S", "S start", "start:S", "start: S", "start S:",
            " ", ":", "start 1/1: S", "S 1/1: a", "start S 1/1: a",
        ]
        for row in wrong + ["start " + symbol for symbol in NO_SYMBOLS]:
            self.assert_refused(NoText, row)
            self.assert_refused(NoText, row, *RULES)
            self.assert_refused(NoText, row, *equal_rows(31))

    def test_a_row_of_the_second_form_first(self):
        self.assert_refused(NoText, *RULES)
        self.assert_refused(NoText, RULES[0], START, *RULES[1:])
        self.assert_refused(NoText, *RULES, START)
        self.assert_refused(NoText, "start 1/1: a")

    def test_a_line_feed_ahead(self):
        self.assert_refused(NoText, "", START, *RULES)
        self.assert_refused(NoText, "", "", START, *RULES)
        self.assert_refused(NoText, "", "")


class TestOtherRows(NotesCase):
    def test_a_second_start(self):
        for row in (START, "start A", "start X", "start", "start "):
            self.assert_no_rule(row)

    def test_an_empty_row_and_a_line_feed_at_the_end(self):
        self.assert_no_rule("")
        self.assert_no_rule(" ")
        self.assert_refused(NoText, START, *RULES, "", "")
        self.assert_refused(NoText, START, "")

    def test_blanks(self):
        for row in (" A 1/1: a b", "A 1/1: a b ", "A  1/1: a b", "A 1/1:  a b", "A 1/1: a  b", "A1/1: a b", "A 1/1:a b",
                    "A 1/1:ab", "A 1 /1: a b", "A 1/ 1: a b", "A 1 / 1: a b", "A 1/1 : a b", "A 1/1 :a b", " ", "  ",
                    "A 1/1: a b  ", "  A 1/1: a b", "A 1/1 a b", "A 1/1: "):
            self.assert_no_rule(row)

    def test_colons(self):
        for row in ("A 1/1 a", "A 1/1", "A: 1/1 a", "A: 1/1: a", "A 1/1:: a", "A 1/1: a:", "A 1/1: :", "A :1/1 a",
                    "A 1/1; a", "A 1/1a: b", "A: a", "A 1/1: a: b", ": 1/1: a", "A : a", "A 1/1:: a"):
            self.assert_no_rule(row)

    def test_no_symbol_and_five_symbols(self):
        for row in ("A 1/1:", "A 1/1: ", "A", "A 1/1", "A 1/1: a b c d e", "A 1/1: a a a a a", "A 1/1: a b c d e f"):
            self.assert_no_rule(row)

    def test_symbols_that_are_none(self):
        for symbol in NO_SYMBOLS:
            for row in (f"{symbol} 1/1: a", f"A 1/1: {symbol}", f"A 1/1: a {symbol}", f"A 1/1: {symbol} a",
                        f"A 1/1: a b c {symbol}", f"A 1/1: a {symbol} c d"):
                self.assert_no_rule(row)

    def test_each_sign_that_is_no_letter(self):
        for sign in [chr(number) for number in range(33, 127)]:
            if sign not in LETTERS:
                for symbol in (sign, "a" + sign, sign + "a"):
                    self.assert_refused(NoText, START, *RULES, f"B 1/1: {symbol}")
                    self.assert_refused(NoText, START, *RULES, f"{symbol} 1/1: a")
                    self.assert_refused(NoText, f"start {symbol}", *RULES)

    def test_tops_and_bottoms_that_are_none(self):
        for number in NO_NUMBERS:
            for row in (f"A {number}/1: a", f"A 1/{number}: a", f"A {number}/{number}: a", f"A {number}: a"):
                self.assert_no_rule(row)

    def test_each_sign_that_is_no_figure(self):
        for sign in [chr(number) for number in range(33, 127)]:
            if not sign.isdigit():
                for number in (sign, "1" + sign, sign + "1", "1" + sign + "1"):
                    self.assert_refused(NoText, START, "S 1/2: a", f"S {number}/2: b")
                    self.assert_refused(NoText, START, "S 1/2: a", f"S 1/{number}: b")

    def test_shares_of_another_form(self):
        for written_share in ("1", "1/", "/1", "/", "1//2", "1/2/3", "1/2/", "/1/2", "1\\2", "1:2", "1-2", "0/1", "1/0",
                              "0/0"):
            self.assert_no_rule(f"A {written_share}: a")

    def test_not_in_lowest_terms(self):
        for written_share in ("2/2", "2/4", "4/2", "3/6", "10/15", "6/4", f"{SIXTY - 1}/{2 * (SIXTY // 4)}"):
            top, bottom = [int(number) for number in written_share.split("/")]
            self.assertNotEqual(pair(Fraction(top, bottom)), (top, bottom))
            self.assert_no_rule(f"A {written_share}: a")

    def test_sixty_and_sixty_one_figures(self):
        bottom = 10 ** 60 + 7
        self.assertEqual(len(str(bottom)), 61)
        self.assert_no_rule(f"A 1/{bottom}: a")
        self.assert_no_rule(f"A {bottom}/1: a")
        self.assert_no_rule(f"A {bottom - 1}/{bottom}: a")
        self.assert_refused(NoText, START, f"S 1/{bottom}: a", f"S {bottom - 1}/{bottom}: b")
        self.assert_refused(NoGrammar, START, f"S 1/{SIXTY}: a")
        self.assert_refused(NoGrammar, START, f"S {SIXTY}/1: a")
        self.assertEqual(read(f"start S\nS 1/{SIXTY}: a\nS {SIXTY - 1}/{SIXTY}: b").rules()[0][2], (1, SIXTY))


class TestNoGrammar(NotesCase):
    def test_no_rule(self):
        for start in ("S", "start", "abcdefgh"):
            self.assert_refused(NoGrammar, f"start {start}")

    def test_more_than_thirty(self):
        for many in (31, 32, 45):
            self.assert_refused(NoGrammar, START, *equal_rows(many))

    def test_other_sums(self):
        for rows in (["S 1/2: a"], ["S 1/2: a", "S 1/3: b"], ["S 1/2: a", "S 2/3: b"], ["S 1/1: a", "S 1/1: b"],
                     ["S 1/1: a", "T 1/2: a"], ["S 1/1: a", "T 2/1: a"], ["S 1/2: a", "T 1/2: a"], ["S 2/1: a"]):
            self.assert_refused(NoGrammar, START, *rows)

    def test_a_rule_twice(self):
        self.assert_refused(NoGrammar, START, "S 1/2: a", "S 1/2: a")
        self.assert_refused(NoGrammar, START, "S 1/3: a b", "S 1/3: c", "S 1/3: a b")

    def test_a_start_that_is_no_head(self):
        for start in ("a", "T", "s", "start"):
            self.assert_refused(NoGrammar, f"start {start}", "S 1/1: a")


class TestLeftAlone(NotesCase):
    def test_arguments(self):
        self.assertEqual(list(inspect.signature(written).parameters), ["grammar"])
        self.assertEqual(list(inspect.signature(read).parameters), ["text"])
        self.assertEqual(written(grammar=read(text=TEXT)), TEXT)

    def test_lists_changed_behind_that_change_nothing(self):
        rules = rules_of("S 1/2: S\nS 1/2: a")
        grammar = Grammar("S", rules)
        for told in (rules, grammar.rules(), grammar.heads(), read(TEXT).rules()):
            told.clear()
        self.assertEqual(written(grammar), "start S\nS 1/2: S\nS 1/2: a")
        found = read(TEXT)
        found.rules().clear()
        self.assertEqual(written(found), TEXT)
        self.assertEqual(written(read(TEXT)), TEXT)


if __name__ == "__main__":
    unittest.main()
