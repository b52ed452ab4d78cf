import unittest
from random import Random

from patchsquare.errors import NoInverse
from patchsquare.field import inverse_of, power_of, times_of, worth_at


# The rule of doublings, word by word.
def doubled(a):
    return 2 * a if 2 * a < 64 else (2 * a) ^ 67


def product(a, b):
    total = 0
    for weight in (1, 2, 4, 8, 16, 32):
        if b & weight:
            part = a
            for _ in range(weight.bit_length() - 1):
                part = doubled(part)
            total ^= part
    return total


def power(a, k):
    result = 1
    for _ in range(k):
        result = product(result, a)
    return result


class TestTimesOf(unittest.TestCase):
    def test_written_out(self):
        self.assertEqual(times_of(2, 31), 62)
        self.assertEqual(times_of(2, 32), 3)
        self.assertEqual(times_of(32, 2), 3)
        self.assertEqual(times_of(33, 2), 1)
        self.assertEqual(times_of(63, 2), 61)
        self.assertEqual(times_of(3, 3), 5)
        self.assertEqual(times_of(32, 32), 48)
        self.assertEqual(times_of(63, 63), 42)

    def test_all_products(self):
        for a in range(64):
            for b in range(64):
                self.assertEqual(times_of(a, b), product(a, b), (a, b))

    def test_products_are_grains(self):
        for a in range(64):
            for b in range(64):
                told = times_of(a, b)
                self.assertIs(type(told), int)
                self.assertIn(told, range(64))

    def test_nought_and_one(self):
        for a in range(64):
            self.assertEqual((times_of(a, 0), times_of(0, a)), (0, 0))
            self.assertEqual((times_of(a, 1), times_of(1, a)), (a, a))

    def test_order_does_not_matter_and_sums_are_shared_out(self):
        for a in range(64):
            for b in range(64):
                self.assertEqual(times_of(a, b), times_of(b, a))
                self.assertEqual(times_of(a, b ^ 37), times_of(a, b) ^ times_of(a, 37))


class TestInverseOf(unittest.TestCase):
    def test_written_out(self):
        self.assertEqual(inverse_of(1), 1)
        self.assertEqual(inverse_of(2), 33)
        self.assertEqual(inverse_of(33), 2)

    def test_each_grain_but_nought(self):
        for a in range(1, 64):
            told = inverse_of(a)
            self.assertEqual([b for b in range(64) if product(a, b) == 1], [told])
            self.assertIs(type(told), int)

    def test_nought_is_refused(self):
        with self.assertRaises(NoInverse):
            inverse_of(0)


class TestPowerOf(unittest.TestCase):
    def test_no_factors_make_one(self):
        for a in range(64):
            self.assertEqual(power_of(a, 0), 1)
            self.assertIs(type(power_of(a, 0)), int)

    def test_powers_of_nought(self):
        for k in (1, 2, 62, 63, 64, 126, 10 ** 9):
            self.assertEqual(power_of(0, k), 0)

    def test_powers_of_one(self):
        for k in (1, 2, 62, 63, 64, 10 ** 9):
            self.assertEqual(power_of(1, k), 1)

    def test_powers_of_two(self):
        self.assertEqual([power_of(2, k) for k in range(8)], [1, 2, 4, 8, 16, 32, 3, 6])
        self.assertEqual(power_of(2, 62), 33)
        self.assertEqual(power_of(2, 63), 1)
        self.assertEqual(power_of(2, 64), 2)
        self.assertEqual(sorted(power_of(2, k) for k in range(63)), list(range(1, 64)))

    def test_every_grain_by_counting_factors(self):
        for a in range(64):
            for k in list(range(12)) + [31, 32, 61, 62, 63, 64, 65, 125, 126, 127, 189, 200]:
                self.assertEqual(power_of(a, k), power(a, k), (a, k))

    def test_great_powers(self):
        for a in range(1, 64):
            for k in (10 ** 9, 10 ** 9 - 1, 999999937, 63 * 10 ** 7, 63 * 10 ** 7 + 62):
                self.assertEqual(power_of(a, k), power(a, k % 63), (a, k))
        self.assertEqual(10 ** 9 % 63, 55)
        self.assertEqual(power_of(2, 10 ** 9), power(2, 55))


class TestWorthAt(unittest.TestCase):
    def expected(self, grains, x):
        total = 0
        for place, grain in enumerate(grains):
            total ^= product(grain, power(x, len(grains) - 1 - place))
        return total

    def test_no_grains(self):
        for x in (0, 1, 2, 33, 63):
            self.assertEqual(worth_at([], x), 0)
            self.assertIs(type(worth_at([], x)), int)

    def test_one_grain(self):
        for grain in range(64):
            for x in (0, 1, 2, 33, 63):
                self.assertEqual(worth_at([grain], x), grain)

    def test_written_out(self):
        self.assertEqual(worth_at([1, 0, 0], 2), 4)
        self.assertEqual(worth_at([0, 1, 0], 2), 2)
        self.assertEqual(worth_at([5, 7, 9], 0), 9)
        self.assertEqual(worth_at([5, 7, 9], 1), 5 ^ 7 ^ 9)
        self.assertEqual(worth_at([1, 0, 0, 0, 0, 0, 0], 2), 3)
        self.assertEqual(worth_at([3, 2, 1], 2), 12 ^ 4 ^ 1)

    def test_rows_of_many_lengths(self):
        chance = Random(3)
        for count in (2, 3, 4, 10, 44, 62, 63, 64, 65, 96, 132, 133):
            row = [chance.randrange(64) for _ in range(count)]
            for x in (0, 1, 2, 3, 32, 33, 62, 63):
                with self.subTest(count=count, x=x):
                    self.assertEqual(worth_at(row, x), self.expected(row, x))

    def test_the_first_grain_of_a_long_row(self):
        for x in range(64):
            self.assertEqual(worth_at([1] + [0] * 132, x), power(x, 132))

    def test_the_row_stays(self):
        for row in ([], [7], list(range(64)), [63] * 133):
            before = list(row)
            told = worth_at(row, 5)
            self.assertIs(type(told), int)
            self.assertEqual(row, before)


if __name__ == "__main__":
    unittest.main()
