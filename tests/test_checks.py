import unittest
from random import Random

from patchsquare.checks import checks_for, is_code
from patchsquare.field import times_of

POWERS = [1]
while len(POWERS) < 63:
    POWERS.append(times_of(POWERS[-1], 2))


def worths(row, count):
    told = []
    for k in range(1, count + 1):
        total = 0
        for place, grain in enumerate(row):
            total ^= times_of(grain, POWERS[k * (len(row) - 1 - place) % 63])
        told.append(total)
    return told


# The product of x less 2 to the k for each of these k, the greatest power first.
def row_of_noughts(exponents):
    row = [1]
    for k in exponents:
        shifted = row + [0]
        for place, grain in enumerate(row):
            shifted[place + 1] ^= times_of(grain, POWERS[k % 63])
        row = shifted
    return row


def data_rows(chance, count):
    most = 63 - count
    for length in sorted({1, 2, 3, most // 2, most - 1, most}):
        yield [chance.randrange(64) for _ in range(length)]
    yield [0] * most
    yield [1]
    yield [0] * (most - 1) + [1]
    yield [63] + [0] * (most - 1)


class TestChecksFor(unittest.TestCase):
    def test_written_out(self):
        # With one check the whole row's worth at 2 is 0, so the check is twice the datum.
        self.assertEqual(checks_for([1], 1), [2])
        self.assertEqual(checks_for([32], 1), [3])
        self.assertEqual(checks_for([0], 1), [0])
        # x less 2 times x less 4 is x * x, 6 times x and 8.
        self.assertEqual(checks_for([1], 2), [6, 8])
        self.assertEqual(checks_for([0, 0, 0], 4), [0, 0, 0, 0])

    def test_every_count(self):
        chance = Random(1)
        for count in range(1, 27):
            for data in data_rows(chance, count):
                with self.subTest(count=count, length=len(data)):
                    checks = checks_for(data, count)
                    self.assertEqual(len(checks), count)
                    self.assertEqual(worths(data + checks, count), [0] * count)

    def test_a_single_one_tells_the_row_of_noughts(self):
        for count in range(1, 27):
            self.assertEqual(checks_for([1], count), row_of_noughts(range(1, count + 1))[1:])
            self.assertEqual(checks_for([0, 0, 1], count), row_of_noughts(range(1, count + 1))[1:])

    def test_every_length_of_data(self):
        chance = Random(2)
        for count in (1, 2, 13, 25, 26):
            for length in range(1, 64 - count):
                data = [chance.randrange(64) for _ in range(length)]
                self.assertEqual(worths(data + checks_for(data, count), count), [0] * count)

    def test_told_is_a_new_list_of_whole_numbers(self):
        for data, count in (([5], 1), ([0] * 10, 4), ([1, 2, 3], 26)):
            told = checks_for(data, count)
            self.assertIs(type(told), list)
            self.assertEqual({type(grain) for grain in told}, {int})
            self.assertTrue(all(0 <= grain < 64 for grain in told))
            before = list(told)
            told[0] = 64
            told.append(1)
            self.assertEqual(checks_for(data, count), before)

    def test_the_data_stay(self):
        chance = Random(3)
        for count in (1, 2, 10, 26):
            for data in data_rows(chance, count):
                before = list(data)
                checks_for(data, count)
                self.assertEqual(data, before)


class TestIsCode(unittest.TestCase):
    def test_code_rows(self):
        chance = Random(4)
        for count in range(1, 27):
            for data in data_rows(chance, count):
                self.assertIs(is_code(data + checks_for(data, count), count), True)

    def test_one_grain_changed_at_any_place(self):
        chance = Random(5)
        for count in (1, 2, 3, 8, 25, 26):
            for length in (1, 2, 63 - count):
                data = [chance.randrange(64) for _ in range(length)]
                row = data + checks_for(data, count)
                for place in range(len(row)):
                    changed = list(row)
                    changed[place] ^= chance.randrange(1, 64)
                    self.assertIs(is_code(changed, count), False)

    def test_there_is_just_one_row_of_checks(self):
        told = checks_for([9, 33, 7], 1)
        self.assertEqual([last for last in range(64) if is_code([9, 33, 7, last], 1)], told)
        told = checks_for([60, 2], 2)
        rows = [[first, last] for first in range(64) for last in range(64) if is_code([60, 2, first, last], 2)]
        self.assertEqual(rows, [told])

    def test_each_worth_counts(self):
        # Rows that are worth 0 at all of the powers that are asked but one.
        for count in range(1, 27):
            for lacking in range(1, count + 1):
                row = row_of_noughts([k for k in range(1, count + 1) if k != lacking])
                for behind in ([0], [0, 0], [0] * (63 - len(row))):
                    self.assertEqual([k + 1 for k, worth in enumerate(worths(row + behind, count)) if worth], [lacking])
                    self.assertIs(is_code(row + behind, count), False)

    def test_no_other_worth_counts(self):
        for count in range(1, 27):
            row = row_of_noughts(range(1, count + 1))
            self.assertIs(is_code(row, count), True)
            self.assertIs(is_code(row, count + 1), False)
            if count > 1:
                self.assertIs(is_code(row, count - 1), True)

    def test_rows_of_noughts(self):
        for count in (1, 5, 26):
            self.assertIs(is_code([0] * (count + 1), count), True)
            self.assertIs(is_code([0] * 63, count), True)
            self.assertIs(is_code([0] * 62 + [1], count), False)
            self.assertIs(is_code([1] + [0] * 62, count), False)

    def test_against_the_worths(self):
        chance = Random(6)
        for _ in range(300):
            count = chance.randrange(1, 4)
            row = [chance.randrange(4) for _ in range(chance.randrange(count + 1, 9))]
            self.assertIs(is_code(row, count), not any(worths(row, count)))

    def test_the_row_stays(self):
        for row in ([1, 2], [1, 3], [1, 6, 8], [0] * 63):
            before = list(row)
            is_code(row, 1)
            self.assertEqual(row, before)


if __name__ == "__main__":
    unittest.main()
