"""Point [4]: systems; and what [1] says of lists that are handed in and told."""

import copy
import inspect
import unittest
from fractions import Fraction

from helping import pair
from scoreflow.errors import NoEnd, NoGrammar, NoShare, NoText, NoTree, ScoreError
from scoreflow.solving import solved, solved_rows

NOUGHT = (0, 1)
ONE = (1, 1)
HALF = (1, 2)


def determinant(rows):
    if not rows:
        return Fraction(1)
    total = Fraction(0)
    for place, number in enumerate(rows[0]):
        if number != 0:
            rest = [row[:place] + row[place + 1:] for row in rows[1:]]
            total += (-1) ** place * number * determinant(rest)
    return total


def differences(ways):
    """One less the ways, whose solution for the ends is that of the system."""
    return [
        [(1 if i == j else 0) - Fraction(*way) for j, way in enumerate(row)]
        for i, row in enumerate(ways)
    ]


def has_end(ways):
    """What an unknown's own way to itself is short of 1, as it is by then, is one leading
    minor by the one ahead of it: the first that isn't above nought tells the refusal."""
    rows = differences(ways)
    return all(determinant([row[:k] for row in rows[:k]]) > 0 for k in range(1, len(rows) + 1))


def by_determinants(ways, ends):
    rows = differences(ways)
    whole = determinant(rows)
    told = []
    for k in range(len(ends)):
        put = [row[:k] + [Fraction(*end)] + row[k + 1:] for row, end in zip(rows, ends)]
        told.append(pair(determinant(put) / whole))
    return told


def made_system(size, seed, most, gap):
    """Ways from nought up to about `most` parts of their row; each gap-th way is nought."""
    number = seed * 7919 + size * 104729 + 1
    ways, ends = [], []
    for i in range(size):
        row = []
        for j in range(size):
            number = (number * 1103515245 + 12345) % 2147483648
            top = (number >> 8) % (most + 1)
            nought = gap and (number >> 16) % gap == 0
            row.append(NOUGHT if nought else pair(Fraction(top, 4 * size)))
        number = (number * 1103515245 + 12345) % 2147483648
        ends.append(pair(Fraction((number >> 8) % 6, 1 + (number >> 16) % 7)))
        ways.append(row)
    return ways, ends


class SolvingCase(unittest.TestCase):
    def assert_holds(self, ways, ends, told):
        self.assertIs(type(told), list)
        self.assertEqual(len(told), len(ends))
        for one in told:
            self.assertIs(type(one), tuple)
            self.assertEqual([type(number) for number in one], [int, int])
            self.assertEqual(pair(Fraction(*one)), one)
            self.assertGreaterEqual(one[0], 0)
        for unknown, row, end in zip(told, ways, ends):
            reckoned = Fraction(*end)
            for way, other in zip(row, told):
                reckoned += Fraction(*way) * Fraction(*other)
            self.assertEqual(pair(reckoned), unknown)

    def assert_no_end(self, ways, ends):
        with self.assertRaises(NoEnd) as taken:
            solved(ways, ends)
        self.assertIsInstance(taken.exception, ScoreError)
        self.assertNotIsInstance(taken.exception, (NoShare, NoGrammar, NoTree, NoText))


class TestSolved(SolvingCase):
    def test_no_unknowns(self):
        self.assertEqual(solved([], []), [])

    def test_one_unknown(self):
        self.assertEqual(solved([[NOUGHT]], [(3, 7)]), [(3, 7)])
        self.assertEqual(solved([[HALF]], [HALF]), [ONE])
        self.assertEqual(solved([[(2, 3)]], [(1, 6)]), [HALF])
        self.assertEqual(solved([[HALF]], [NOUGHT]), [NOUGHT])
        self.assertEqual(solved([[(999999999988, 999999999989)]], [ONE]), [(999999999989, 1)])

    def test_without_ways_the_ends_are_told(self):
        ends = [ONE, NOUGHT, (5, 3), HALF]
        self.assertEqual(solved([[NOUGHT] * 4 for _ in ends], ends), ends)

    def test_which_way_a_way_leads(self):
        self.assertEqual(solved([[NOUGHT, (3, 1)], [NOUGHT, NOUGHT]], [ONE, (2, 1)]), [(7, 1), (2, 1)])
        self.assertEqual(solved([[NOUGHT, NOUGHT], [(3, 1), NOUGHT]], [ONE, (2, 1)]), [ONE, (5, 1)])

    def test_ways_above_one_to_others(self):
        ways = [[NOUGHT, (7, 1), NOUGHT], [NOUGHT, NOUGHT, (9, 2)], [(1, 100), NOUGHT, HALF]]
        ends = [ONE, HALF, (1, 3)]
        told = solved(ways, ends)
        self.assert_holds(ways, ends, told)
        self.assertEqual(told, by_determinants(ways, ends))

    def test_two_that_lead_to_one_another(self):
        ways = [[NOUGHT, HALF], [HALF, NOUGHT]]
        self.assertEqual(solved(ways, [HALF, HALF]), [ONE, ONE])
        self.assertEqual(solved(ways, [ONE, NOUGHT]), [(4, 3), (2, 3)])

    def test_rings(self):
        for size in range(1, 7):
            for step in range(1, size + 1):
                ways = [[NOUGHT] * size for _ in range(size)]
                for k in range(size):
                    ways[k][(k + step) % size] = (k + 1, k + 2)
                ends = [(k, 5) if k % 5 else (k // 5, 1) for k in range(size)]
                told = solved(ways, ends)
                self.assert_holds(ways, ends, told)
                self.assertEqual(told, by_determinants(ways, ends))

    def test_systems_of_one_to_six(self):
        ended = {True: 0, False: 0}
        for size in range(1, 7):
            for seed in range(25):
                for most, gap in ((4, 0), (7, 3), (9, 2), (11, 4)):
                    ways, ends = made_system(size, seed, most, gap)
                    ended[has_end(ways)] += 1
                    if has_end(ways):
                        told = solved(ways, ends)
                        self.assert_holds(ways, ends, told)
                        self.assertEqual(told, by_determinants(ways, ends))
                    else:
                        self.assert_no_end(ways, ends)
        self.assertGreater(ended[True], 100)
        self.assertGreater(ended[False], 50)

    def test_several_ends_at_once(self):
        for size in range(1, 7):
            for seed in range(10):
                ways, ends = made_system(size, seed, 3, seed % 4)
                more = list(reversed(ends))
                told = solved_rows(ways, [list(both) for both in zip(ends, more)])
                self.assertEqual(told, [list(both) for both in zip(solved(ways, ends), solved(ways, more))])

    def test_long_numbers(self):
        ways = [[(123456789012, 987654321097), (1, 999999999989)], [(999999999988, 999999999989), (1, 10 ** 30)]]
        ends = [(10 ** 30 + 1, 10 ** 30), (1, 999999999961)]
        told = solved(ways, ends)
        self.assert_holds(ways, ends, told)
        self.assertEqual(told, by_determinants(ways, ends))

    def test_ten_unknowns(self):
        ways, ends = made_system(10, 1, 6, 3)
        self.assert_holds(ways, ends, solved(ways, ends))

    def test_arguments(self):
        self.assertEqual(list(inspect.signature(solved).parameters), ["ways", "ends"])


class TestNoEnd(SolvingCase):
    def test_straight_to_itself(self):
        for own in (ONE, (2, 1), (3, 2), (10 ** 12 + 1, 10 ** 12)):
            for end in (NOUGHT, HALF, ONE):
                self.assert_no_end([[own]], [end])

    def test_straight_to_itself_at_each_place(self):
        for size in range(1, 7):
            for place in range(size):
                for own in (ONE, (5, 3)):
                    ways = [[NOUGHT] * size for _ in range(size)]
                    ways[place][place] = own
                    self.assert_no_end(ways, [ONE] * size)
                    self.assert_no_end(ways, [NOUGHT] * size)

    def test_two_that_lead_to_one_another(self):
        self.assert_no_end([[NOUGHT, ONE], [ONE, NOUGHT]], [NOUGHT, NOUGHT])
        self.assert_no_end([[NOUGHT, ONE], [ONE, NOUGHT]], [HALF, ONE])
        self.assert_no_end([[NOUGHT, (2, 1)], [HALF, NOUGHT]], [ONE, ONE])
        self.assert_no_end([[NOUGHT, (3, 1)], [HALF, NOUGHT]], [ONE, ONE])
        self.assert_no_end([[HALF, HALF], [HALF, HALF]], [ONE, ONE])
        self.assert_no_end([[HALF, HALF], [(1, 3), (2, 3)]], [NOUGHT, NOUGHT])

    def test_rings(self):
        for size in range(2, 7):
            for last in (ONE, (3, 2)):
                ways = [[NOUGHT] * size for _ in range(size)]
                for k in range(size):
                    ways[k][(k + 1) % size] = ONE
                ways[size - 1][0] = last
                self.assert_no_end(ways, [HALF] * size)
            ways[size - 1][0] = (999, 1000)
            self.assert_holds(ways, [HALF] * size, solved(ways, [HALF] * size))

    def test_own_way_that_grows_to_one(self):
        own = [[HALF, (1, 4)], [ONE, HALF]]
        self.assert_no_end(own, [ONE, ONE])
        own[1][1] = (499, 1000)
        self.assert_holds(own, [ONE, ONE], solved(own, [ONE, ONE]))

    def test_two_of_more_than_one_are_no_less_refused(self):
        # Their determinant is above nought, and there is a solution of shares.
        self.assert_no_end([[(2, 1), NOUGHT], [NOUGHT, (2, 1)]], [NOUGHT, NOUGHT])
        self.assert_no_end([[(3, 1), (1, 1)], [(1, 1), (3, 1)]], [NOUGHT, NOUGHT])


class TestListsAreLeftAlone(SolvingCase):
    def systems(self):
        yield [[HALF, (1, 4)], [(1, 3), (1, 5)]], [ONE, HALF]
        yield [[NOUGHT, ONE], [ONE, NOUGHT]], [ONE, HALF]
        yield [[NOUGHT]], [ONE]
        yield [], []
        for size in range(1, 7):
            yield made_system(size, 3, 4, 3)

    def test_what_is_handed_in_is_the_same_after(self):
        for ways, ends in self.systems():
            rows = list(ways)
            ways_before, ends_before = copy.deepcopy(ways), list(ends)
            try:
                solved(ways, ends)
            except NoEnd:
                pass
            self.assertEqual(ways, ways_before)
            self.assertEqual(ends, ends_before)
            for row, same in zip(ways, rows):
                self.assertIs(row, same)

    def test_what_is_told_is_new(self):
        for ways, ends in [([], []), ([[NOUGHT, NOUGHT], [NOUGHT, NOUGHT]], [ONE, HALF])]:
            told = solved(ways, ends)
            before = list(told)
            self.assertIsNot(told, ends)
            self.assertFalse(any(told is row for row in ways))
            told.append((7, 1))
            told[0] = (9, 1)
            again = solved(ways, ends)
            self.assertEqual(again, before)
            self.assertIsNot(again, told)

    def test_lists_changed_behind_the_call_change_nothing_told(self):
        ways, ends = [[NOUGHT, HALF], [NOUGHT, NOUGHT]], [ONE, HALF]
        told = solved(ways, ends)
        ways[0][1] = ONE
        ways[1] = []
        ends[0] = (5, 1)
        ends.append(ONE)
        self.assertEqual(told, [(5, 4), HALF])

    def test_one_list_in_several_places(self):
        row = [(1, 4), (1, 4)]
        self.assertEqual(solved([row, row], row), [HALF, HALF])
        self.assertEqual(row, [(1, 4), (1, 4)])


if __name__ == "__main__":
    unittest.main()
