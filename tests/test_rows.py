"""The stretches of a row, as point [9] tells them."""

import unittest

import helping
from scoreflow.rows import stretches


class TestStretches(unittest.TestCase):
    def test_all_of_them_and_no_others(self):
        for length in range(12):
            row = ("a",) * length
            found = stretches(row)
            self.assertEqual(sorted(found), sorted(helping.stretches(row)))
            self.assertEqual(len(found), length * (length + 1) // 2)

    def test_the_shorter_ones_first(self):
        lengths = [j - i for i, j in stretches(("a",) * 10)]
        self.assertEqual(lengths, sorted(lengths))

    def test_a_new_list_each_time(self):
        stretches(("a", "b")).clear()
        self.assertEqual(stretches(("a", "b")), [(0, 1), (1, 2), (0, 2)])


if __name__ == "__main__":
    unittest.main()
