import itertools
import unittest
from random import Random

from patchsquare.errors import NoLabel
from patchsquare.labels import label_bits, read_label

PAIRS = [(level, mask) for level in range(4) for mask in range(8)]


def bits(word):
    return [int(sign) for sign in word]


def expected_label(level, mask):
    number = 8 * level + mask
    return [(number + bin(place & number // 2).count("1")) % 2 for place in range(16)]


def spoilt(label, wrong, missing):
    cells = list(label)
    for place in wrong:
        cells[place] = 1 - cells[place]
    for place in missing:
        cells[place] = None
    return cells


# The labels that are near enough to these cells, found by trying each.
def near_labels(cells):
    missing = cells.count(None)
    near = []
    for level, mask in PAIRS:
        wrong = sum(cell is not None and cell != bit for cell, bit in zip(cells, expected_label(level, mask)))
        if 2 * wrong + missing <= 7:
            near.append((level, mask, wrong, missing))
    return near


class TestLabelBits(unittest.TestCase):
    def test_written_out(self):
        self.assertEqual(label_bits(0, 0), bits("0000000000000000"))
        self.assertEqual(label_bits(0, 1), bits("1111111111111111"))
        self.assertEqual(label_bits(0, 2), bits("0101010101010101"))
        self.assertEqual(label_bits(0, 3), bits("1010101010101010"))
        self.assertEqual(label_bits(0, 4), bits("0011001100110011"))
        self.assertEqual(label_bits(0, 6), bits("0110011001100110"))
        self.assertEqual(label_bits(0, 7), bits("1001100110011001"))
        self.assertEqual(label_bits(1, 0), bits("0000111100001111"))
        self.assertEqual(label_bits(2, 0), bits("0000000011111111"))
        self.assertEqual(label_bits(2, 1), bits("1111111100000000"))
        self.assertEqual(label_bits(3, 6), bits("0110100110010110"))
        self.assertEqual(label_bits(3, 7), bits("1001011001101001"))

    def test_all_labels(self):
        for level, mask in PAIRS:
            with self.subTest(level=level, mask=mask):
                self.assertEqual(label_bits(level, mask), expected_label(level, mask))

    def test_any_two_differ_at_eight_places_or_more(self):
        for first, second in itertools.combinations(PAIRS, 2):
            apart = sum(one != other for one, other in zip(label_bits(*first), label_bits(*second)))
            self.assertGreaterEqual(apart, 8)

    def test_told_is_a_new_list_of_whole_numbers(self):
        for level, mask in PAIRS:
            told = label_bits(level, mask)
            self.assertIs(type(told), list)
            self.assertEqual(len(told), 16)
            self.assertLessEqual({type(bit) for bit in told}, {int})
            told.clear()
            self.assertEqual(label_bits(level, mask), expected_label(level, mask))


class TestReadLabel(unittest.TestCase):
    def assert_refused(self, cells):
        with self.assertRaises(NoLabel):
            read_label(cells)

    def assert_as_tried(self, cells):
        near = near_labels(cells)
        self.assertLessEqual(len(near), 1)
        if near:
            self.assertEqual(read_label(cells), near[0])
        else:
            self.assert_refused(cells)

    def test_each_label_as_it_is(self):
        for level, mask in PAIRS:
            self.assertEqual(read_label(expected_label(level, mask)), (level, mask, 0, 0))

    def test_one_wrong_or_missing_cell_at_each_place(self):
        for level, mask in PAIRS:
            for place in range(16):
                cells = spoilt(expected_label(level, mask), [place], [])
                self.assertEqual(read_label(cells), (level, mask, 1, 0))
                cells = spoilt(expected_label(level, mask), [], [place])
                self.assertEqual(read_label(cells), (level, mask, 0, 1))

    def test_every_split_into_wrong_and_missing_in_many_ways(self):
        chance = Random(1)
        for level, mask in PAIRS:
            for wrong_count in range(4):
                for missing_count in range(8 - 2 * wrong_count):
                    for _ in range(5):
                        places = chance.sample(range(16), wrong_count + missing_count)
                        cells = spoilt(expected_label(level, mask), places[:wrong_count], places[wrong_count:])
                        self.assertEqual(read_label(cells), (level, mask, wrong_count, missing_count))

    def test_every_way_for_some_labels(self):
        for level, mask in ((0, 0), (3, 7)):
            label = expected_label(level, mask)
            for wrong in itertools.combinations(range(16), 3):
                self.assertEqual(read_label(spoilt(label, wrong, [])), (level, mask, 3, 0))
        label = expected_label(1, 5)
        for missing in itertools.combinations(range(16), 7):
            if sum(missing) % 7 == 0:
                self.assertEqual(read_label(spoilt(label, [], missing)), (1, 5, 0, 7))

    def test_one_beyond_is_always_refused(self):
        # Labels differ at 8 places or more, so where 2 * w + m is just 8, no other label is near enough.
        chance = Random(2)
        for level, mask in PAIRS:
            for wrong_count in range(5):
                for _ in range(6):
                    places = chance.sample(range(16), 8 - wrong_count)
                    cells = spoilt(expected_label(level, mask), places[:wrong_count], places[wrong_count:])
                    self.assert_refused(cells)

    def test_more_than_seven_missing(self):
        chance = Random(3)
        for level, mask in PAIRS:
            for count in range(8, 17):
                self.assert_refused(spoilt(expected_label(level, mask), [], chance.sample(range(16), count)))

    def test_another_label_is_told_where_it_is_the_near_one(self):
        for first, second in itertools.permutations(PAIRS, 2):
            one, other = expected_label(*first), expected_label(*second)
            apart = [place for place in range(16) if one[place] != other[place]]
            self.assertEqual(read_label(spoilt(one, apart[3:], [])), second + (3, 0))
            self.assertEqual(read_label(spoilt(one, apart[2:], apart[:1])), second + (1, 1))

    def test_cells_by_chance(self):
        chance = Random(4)
        for _ in range(1500):
            self.assert_as_tried([chance.choice((0, 1)) for _ in range(16)])
            self.assert_as_tried([chance.choice((0, 1, 0, 1, None)) for _ in range(16)])

    def test_the_told_kinds(self):
        for cells in (expected_label(0, 0), spoilt(expected_label(0, 1), [0], [1]), expected_label(1, 1)):
            told = read_label(cells)
            self.assertIs(type(told), tuple)
            self.assertEqual([type(number) for number in told], [int] * 4)

    def test_the_cells_stay(self):
        label = expected_label(2, 5)
        for cells in (label, spoilt(label, [1, 2], [3]), spoilt(label, [], range(8)), [None] * 16):
            before = list(cells)
            try:
                read_label(cells)
            except NoLabel:
                pass
            self.assertEqual(cells, before)


if __name__ == "__main__":
    unittest.main()
