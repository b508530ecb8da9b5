"""Points [2] and [3]: shares, and the sums, differences, products and quotients of shares."""

import inspect
import math
import unittest
from fractions import Fraction

from helping import pair
from scoreflow import shares
from scoreflow.errors import NoShare
from scoreflow.shares import added, is_less, lessened, parted, share, sum_of_products, timed

SMALL = sorted({Fraction(top, bottom) for top in range(8) for bottom in range(1, 8)})
TWELVE = [
    Fraction(123456789012, 987654321098),
    Fraction(987654321098, 123456789012),
    Fraction(999999999989, 999999999961),
    Fraction(100000000000, 999999999999),
    Fraction(999999999999, 100000000000),
    Fraction(999999999989, 1),
    Fraction(1, 999999999989),
]
THIRTY = [
    10 ** 29 + 319,
    2 ** 101 * 3 ** 5,
    6 ** 40,
    math.factorial(35),
    123456789012345678901234567890123456789,
]


def pairs_of_fractions():
    some = [Fraction(0), Fraction(1), Fraction(1, 2), Fraction(7, 3)] + TWELVE
    for rows in (SMALL, some):
        for one in rows:
            for other in rows:
                yield one, other


class ShareCase(unittest.TestCase):
    def assert_share(self, told, fraction, said=None):
        self.assertIs(type(told), tuple, said)
        self.assertEqual([type(number) for number in told], [int, int], said)
        self.assertEqual(told, pair(fraction), said)
        self.assertEqual(math.gcd(told[0], told[1]), 1, said)


class TestShare(ShareCase):
    def test_small_numbers(self):
        for top in range(0, 40):
            for bottom in range(1, 40):
                self.assert_share(share(top, bottom), Fraction(top, bottom), (top, bottom))

    def test_plain_examples(self):
        self.assertEqual(share(6, 4), (3, 2))
        self.assertEqual(share(3, 2), (3, 2))
        self.assertEqual(share(4, 6), (2, 3))
        self.assertEqual(share(5, 5), (1, 1))
        self.assertEqual(share(12, 4), (3, 1))

    def test_long_numbers(self):
        for one in THIRTY:
            for other in THIRTY:
                self.assert_share(share(one, other), Fraction(one, other), (one, other))
                self.assert_share(share(one * other, other), Fraction(one), (one, other))

    def test_very_long_numbers(self):
        one, other, common = 7 ** 3000, 5 ** 4000, 11 ** 3000
        self.assertEqual(share(one * common, other * common), (one, other))

    def test_nought(self):
        for bottom in [1, 2, 3, 10, 999999] + THIRTY:
            self.assertEqual(share(0, bottom), (0, 1))

    def test_refused(self):
        wrong = [(-1, 1), (-7, 3), (1, 0), (0, 0), (0, -1), (1, -1), (5, -3), (-1, 0), (-1, -1), (-6, -4)]
        wrong += [(-number, number) for number in THIRTY]
        wrong += [(number, -number) for number in THIRTY]
        wrong += [(-(7 ** 9000), 1), (1, -(7 ** 9000))]
        for top, bottom in wrong:
            with self.assertRaises(NoShare):
                share(top, bottom)

    def test_arguments(self):
        self.assertEqual(share(top=2, bottom=4), (1, 2))


class TestReckoning(ShareCase):
    def test_added(self):
        for one, other in pairs_of_fractions():
            self.assert_share(added(pair(one), pair(other)), one + other, (one, other))

    def test_lessened(self):
        for one, other in pairs_of_fractions():
            if one >= other:
                self.assert_share(lessened(pair(one), pair(other)), one - other, (one, other))
            else:
                with self.assertRaises(NoShare):
                    lessened(pair(one), pair(other))

    def test_timed(self):
        for one, other in pairs_of_fractions():
            self.assert_share(timed(pair(one), pair(other)), one * other, (one, other))

    def test_parted(self):
        for one, other in pairs_of_fractions():
            if other != 0:
                self.assert_share(parted(pair(one), pair(other)), one / other, (one, other))
            else:
                with self.assertRaises(NoShare):
                    parted(pair(one), pair(other))

    def test_is_less(self):
        for one, other in pairs_of_fractions():
            self.assertIs(is_less(pair(one), pair(other)), one < other, (one, other))

    def test_plain_examples(self):
        self.assertEqual(added((1, 6), (1, 3)), (1, 2))
        self.assertEqual(lessened((1, 2), (1, 3)), (1, 6))
        self.assertEqual(timed((2, 3), (3, 4)), (1, 2))
        self.assertEqual(parted((1, 2), (3, 4)), (2, 3))
        self.assertIs(is_less((1, 3), (1, 2)), True)
        self.assertIs(is_less((1, 2), (1, 3)), False)

    def test_same_share_twice(self):
        for fraction in SMALL + TWELVE:
            same = pair(fraction)
            self.assertEqual(added(same, same), pair(2 * fraction))
            self.assertEqual(lessened(same, same), (0, 1))
            self.assertEqual(timed(same, same), pair(fraction * fraction))
            self.assertIs(is_less(same, same), False)
            if fraction != 0:
                self.assertEqual(parted(same, same), (1, 1))

    def test_just_below_nought(self):
        with self.assertRaises(NoShare):
            lessened((0, 1), (1, 999999999989))
        with self.assertRaises(NoShare):
            lessened((999999999988, 999999999989), (1, 1))
        self.assertEqual(lessened((1, 1), (999999999988, 999999999989)), (1, 999999999989))

    def test_quotient_by_nought(self):
        for one in [(0, 1), (1, 1), (7, 2), (1, 999999999989)]:
            with self.assertRaises(NoShare):
                parted(one, (0, 1))

    def test_very_long_refusals(self):
        huge = (7 ** 9000, 5 ** 9000)
        with self.assertRaises(NoShare):
            lessened((1, 1), huge)
        with self.assertRaises(NoShare):
            parted(huge, (0, 1))

    def test_arguments(self):
        for name in ("added", "lessened", "timed", "parted", "is_less"):
            arguments = list(inspect.signature(getattr(shares, name)).parameters)
            self.assertEqual(arguments, ["one", "other"], name)


class TestSumOfProducts(ShareCase):
    def test_of_none(self):
        self.assertEqual(sum_of_products([]), (0, 1))

    def test_of_one(self):
        for one, other in pairs_of_fractions():
            self.assert_share(sum_of_products([(pair(one), pair(other))]), one * other, (one, other))

    def test_of_several(self):
        for many in range(2, 12):
            rows = (SMALL * 2)[3 * many:4 * many] + TWELVE[:many]
            pairs = list(zip(rows, rows[::-1])) + list(zip(rows, rows[1:]))
            total = sum(one * other for one, other in pairs)
            handed = [(pair(one), pair(other)) for one, other in pairs]
            before = list(handed)
            self.assert_share(sum_of_products(handed), total, many)
            self.assertEqual(handed, before)

    def test_noughts_among_them(self):
        self.assertEqual(sum_of_products([((0, 1), (1, 2)), ((1, 3), (0, 1)), ((0, 1), (0, 1))]), (0, 1))
        self.assertEqual(sum_of_products([((0, 1), (1, 7)), ((1, 3), (3, 2)), ((5, 1), (0, 1))]), (1, 2))


if __name__ == "__main__":
    unittest.main()
