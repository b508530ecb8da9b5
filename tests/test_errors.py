"""The refusals of the interface."""

import unittest

from scoreflow.errors import NoEnd, NoGrammar, NoShare, NoText, NoTree, ScoreError

REFUSALS = [NoShare, NoEnd, NoGrammar, NoTree, NoText]


class TestErrors(unittest.TestCase):
    def test_score_error_stands_under_value_error(self):
        self.assertEqual(ScoreError.__bases__, (ValueError,))

    def test_each_refusal_stands_straight_under_score_error(self):
        for refusal in REFUSALS:
            self.assertEqual(refusal.__bases__, (ScoreError,), refusal)

    def test_no_refusal_is_another(self):
        for one in REFUSALS:
            for other in REFUSALS:
                self.assertEqual(issubclass(one, other), one is other, (one, other))

    def test_names(self):
        self.assertEqual(ScoreError.__name__, "ScoreError")
        self.assertEqual(
            [refusal.__name__ for refusal in REFUSALS],
            ["NoShare", "NoEnd", "NoGrammar", "NoTree", "NoText"],
        )

    def test_a_refusal_is_taken_as_score_error_and_by_its_own_name(self):
        for refusal in REFUSALS:
            for taken in (refusal, ScoreError, ValueError):
                with self.assertRaises(taken):
                    raise refusal("words")


if __name__ == "__main__":
    unittest.main()
