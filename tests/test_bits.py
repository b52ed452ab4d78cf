import itertools
import unittest

from patchsquare.bits import bits_of, number_of


class TestBitsOf(unittest.TestCase):
    def test_written_out(self):
        self.assertEqual(bits_of(6, 3), [1, 1, 0])
        self.assertEqual(bits_of(6, 5), [0, 0, 1, 1, 0])
        self.assertEqual(bits_of(1, 4), [0, 0, 0, 1])
        self.assertEqual(bits_of(42, 6), [1, 0, 1, 0, 1, 0])

    def test_nought_and_the_greatest_of_each_count(self):
        for count in range(61):
            with self.subTest(count=count):
                self.assertEqual(bits_of(0, count), [0] * count)
                self.assertEqual(bits_of(2 ** count - 1, count), [1] * count)

    def test_each_single_bit_of_each_count(self):
        for count in range(1, 61):
            for place in range(count):
                expected = [0] * count
                expected[place] = 1
                self.assertEqual(bits_of(2 ** (count - 1 - place), count), expected)

    def test_no_count_writes_no_bits(self):
        self.assertEqual(bits_of(0, 0), [])

    def test_all_numbers_of_small_counts(self):
        for count in range(9):
            rows = [list(row) for row in itertools.product((0, 1), repeat=count)]
            self.assertEqual([bits_of(number, count) for number in range(2 ** count)], rows)

    def test_told_bits_are_a_list_of_whole_numbers(self):
        bits = bits_of(2 ** 59 + 5, 60)
        self.assertIs(type(bits), list)
        self.assertEqual({type(bit) for bit in bits}, {int})

    def test_a_changed_list_changes_no_later_answer(self):
        for number, count in ((5, 3), (0, 4), (0, 0)):
            told = bits_of(number, count)
            before = list(told)
            told.append(7)
            told[0] = 9
            self.assertEqual(bits_of(number, count), before)
            self.assertIsNot(bits_of(number, count), bits_of(number, count))


class TestNumberOf(unittest.TestCase):
    def test_written_out(self):
        self.assertEqual(number_of([1, 1, 0]), 6)
        self.assertEqual(number_of([0, 0, 1, 1, 0]), 6)
        self.assertEqual(number_of([1]), 1)

    def test_no_bits_write_nought(self):
        self.assertEqual(number_of([]), 0)

    def test_nought_and_the_greatest_of_each_count(self):
        for count in range(61):
            with self.subTest(count=count):
                self.assertEqual(number_of([0] * count), 0)
                self.assertEqual(number_of([1] * count), 2 ** count - 1)

    def test_it_undoes_bits_of(self):
        for count in range(61):
            for number in {0, 2 ** count - 1, 2 ** count // 2, 2 ** count // 3, 2 ** count // 7}:
                self.assertEqual(number_of(bits_of(number, count)), number)

    def test_the_told_number_is_a_whole_number(self):
        for bits in ([], [0], [1], [1, 0, 1]):
            self.assertIs(type(number_of(bits)), int)

    def test_the_bits_handed_in_stay(self):
        for bits in ([], [0], [1, 0, 0, 1, 1]):
            before = list(bits)
            number_of(bits)
            self.assertEqual(bits, before)


if __name__ == "__main__":
    unittest.main()
