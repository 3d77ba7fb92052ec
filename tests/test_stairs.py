"""sheetmoves/stairs.py: sums of rows of integers, by which promises [11] and [17] find scripts."""

import random
import unittest

from sheetmoves.stairs import Stairs

from sheets import is_in_sums


def summed(rows, times):
    return [sum(many * number for many, number in zip(times, column)) for column in zip(*rows)]


class TestStairs(unittest.TestCase):
    def test_small_ones(self):
        self.assertEqual(Stairs([[2, 0], [0, 3]]).times([4, -9]), [2, -3])
        self.assertIsNone(Stairs([[2, 0], [0, 3]]).times([1, 3]))
        self.assertIsNone(Stairs([[2, 0], [0, 3]]).times([2, 1]))
        self.assertEqual(Stairs([[5, 5]]).times([0, 0]), [0])
        self.assertIsNone(Stairs([[5, 5]]).times([5, 4]))
        self.assertIsNone(Stairs([[0, 5]]).times([5, 5]))

    def test_without_rows(self):
        self.assertEqual(Stairs([]).times([0, 0]), [])
        self.assertIsNone(Stairs([]).times([0, 1]))
        self.assertEqual(Stairs([[0, 0]]).times([0, 0]), [0])
        self.assertIsNone(Stairs([[0, 0]]).times([1, 0]))

    def test_common_divisors(self):
        rows = [[6], [10], [15]]
        stairs = Stairs(rows)
        for number in (1, -1, 7, 10 ** 40, 0):
            self.assertEqual(summed(rows, stairs.times([number])), [number])
        self.assertIsNone(Stairs([[6], [10]]).times([3]))
        self.assertIsNone(Stairs([[-6], [-10]]).times([3]))
        self.assertEqual(summed([[-6], [-10]], Stairs([[-6], [-10]]).times([2])), [2])

    def test_rows_stay(self):
        rows = [[2, 4, 6], [3, 3, 3], [1, 0, 1]]
        stairs = Stairs(rows)
        stairs.times([1, 2, 3])
        self.assertEqual(rows, [[2, 4, 6], [3, 3, 3], [1, 0, 1]])

    def test_some_rows(self):
        source = random.Random(1)
        seen = {True: 0, False: 0}
        for _ in range(600):
            width = source.randrange(1, 7)
            most = source.choice((1, 2, 9))
            rows = [[source.randrange(-most, most + 1) for _ in range(width)] for _ in range(source.randrange(1, 9))]
            stairs = Stairs(rows)
            for _ in range(3):
                target = [source.randrange(-9, 10) for _ in range(width)]
                if source.random() < 0.3:
                    target = summed(rows, [source.randrange(-10 ** 40, 10 ** 40) for _ in rows])
                times = stairs.times(target)
                self.assertIs(times is not None, is_in_sums(rows, target))
                if times is not None:
                    self.assertEqual(summed(rows, times), target)
                seen[times is None] += 1
        self.assertGreater(min(seen.values()), 200)

    def test_great_ones_stay_small(self):
        # Without care the numbers of as many rows grow to millions of digits.
        source = random.Random(2)
        for _ in range(10):
            rows = [[source.randrange(-9, 10) if source.random() < 0.15 else 0 for _ in range(36)] for _ in range(100)]
            target = summed(rows, [source.randrange(-9, 10) for _ in rows])
            times = Stairs(rows).times(target)
            self.assertEqual(summed(rows, times), target)
            self.assertLess(max(abs(many) for many in times), 10 ** 200)


if __name__ == "__main__":
    unittest.main()
