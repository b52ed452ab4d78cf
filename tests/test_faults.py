import itertools
import unittest
from random import Random

from patchsquare.faults import best_mask, square_faults
from patchsquare.laying import laid_square, taken_grains

ROOMS = {15: 16, 19: 37, 23: 64, 27: 96, 31: 133}


def square_of(size, rule):
    return [[1 if rule(row, column) else 0 for column in range(size)] for row in range(size)]


def chessboard(size=15):
    return square_of(size, lambda row, column: (row + column) % 2 == 0)


def flipped(square, *places):
    changed = [list(row) for row in square]
    for row, column in places:
        changed[row][column] = 1 - changed[row][column]
    return changed


def columns_of(square):
    return [list(column) for column in zip(*square)]


def line_faults(line):
    lengths = [len(list(run)) for cell, run in itertools.groupby(line)]
    return sum(length - 2 for length in lengths if length > 3)


# Another way to the faults of a square.
def expected_faults(square):
    size = len(square)
    columns = columns_of(square)
    runs = sum(line_faults(line) for line in square + columns)
    patches = sum(square[row][column] + square[row][column + 1] + square[row + 1][column] + square[row + 1][column + 1]
                  in (0, 4) for row in range(size - 1) for column in range(size - 1))
    alike = sum(first == second for lines in (square, columns) for first, second in zip(lines, lines[1:]))
    cells = [cell for row in square for cell in row]
    counts = sorted((cells.count(0), cells.count(1)))
    return runs + 2 * patches + 9 * alike + (counts[1] - counts[0]) // size


class TestSquareFaults(unittest.TestCase):
    # In both directions and with dark and light changed for one another the faults are as many.
    def assert_faults(self, square, faults):
        self.assertEqual(square_faults(square), faults)
        self.assertEqual(square_faults(columns_of(square)), faults)
        self.assertEqual(square_faults([row[::-1] for row in square]), faults)
        self.assertEqual(square_faults(square[::-1]), faults)
        self.assertEqual(square_faults([[1 - cell for cell in row] for row in square]), faults)

    def test_a_chessboard_has_none(self):
        for size in ROOMS:
            self.assert_faults(chessboard(size), 0)

    def test_all_cells_alike(self):
        # 30 runs of 15, 196 patches, 28 like neighbours, and 225 parted by 15.
        self.assert_faults(square_of(15, lambda row, column: True), 30 * 13 + 2 * 196 + 9 * 28 + 15)
        for size in ROOMS:
            faults = 2 * size * (size - 2) + 2 * (size - 1) ** 2 + 18 * (size - 1) + size
            self.assert_faults(square_of(size, lambda row, column: True), faults)

    def test_stripes(self):
        # 15 runs of 15, 14 like neighbours, and 8 dark rows against 7: 15 cells more.
        self.assert_faults(square_of(15, lambda row, column: row % 2 == 0), 15 * 13 + 9 * 14 + 1)
        # Stripes of two rows: 8 rows are like their neighbour only 7 times, the columns are all alike.
        # 15 runs of 15, 7 times 14 patches, 7 + 14 like neighbours, and 8 rows against 7.
        self.assert_faults(square_of(15, lambda row, column: row // 2 % 2 == 0), 15 * 13 + 2 * 98 + 9 * 21 + 1)

    def test_runs_of_three_are_no_faults(self):
        for row, column in ((0, 0), (7, 7), (0, 7), (7, 0), (14, 14), (3, 10)):
            self.assert_faults(flipped(chessboard(), (row, column)), 0)

    def test_runs_of_four_at_the_border(self):
        for row in range(15):
            self.assert_faults(flipped(chessboard(), (row, 0), (row, 2)), 2)
            self.assert_faults(flipped(chessboard(), (row, 14), (row, 12)), 2)

    def test_a_run_of_four_within(self):
        # Two parts of chessboards that meet behind the column 7.
        square = square_of(15, lambda row, column: (row + column + (1 if column > 7 else 0)) % 2 == 0)
        # The columns 7 and 8 are alike.
        self.assert_faults(square, 9)
        # The cell at (5, 6) turned over makes a run of 4 in the row 5, from the column 5 to the column 8.
        self.assert_faults(flipped(square, (5, 6)), 9 + 2)

    def test_longer_runs(self):
        # Every second cell turned over: a run from the cell ahead of the first to the cell behind the last.
        for count in range(2, 7):
            places = [(6, 1 + 2 * step) for step in range(count)]
            self.assert_faults(flipped(chessboard(), *places), 2 * count + 1 - 2)
        # The whole row: 7 cells turned over make a run of 15, and the dark cells 15 more than the light ones.
        self.assert_faults(flipped(chessboard(), *[(6, 1 + 2 * step) for step in range(7)]), 13 + 1)

    def test_two_runs_in_one_row(self):
        self.assert_faults(flipped(chessboard(), (4, 0), (4, 2), (4, 12), (4, 14)), 2 + 2)
        self.assert_faults(flipped(chessboard(), (4, 1), (4, 3), (4, 10), (4, 12)), 3 + 3)

    def test_two_runs_side_by_side(self):
        # Eight cells of one kind and then seven of the other, in one row of a chessboard.
        square = chessboard()
        square[7] = [1] * 8 + [0] * 7
        self.assertEqual(expected_faults(square), 6 + 5)
        self.assert_faults(square, 6 + 5)

    def test_one_patch(self):
        for row, column in ((6, 6), (6, 7), (2, 9), (0, 0), (13, 13)):
            self.assert_faults(flipped(chessboard(), (row, column), (row + 1, column + 1)), 2)

    def test_two_patches_that_share_cells(self):
        # (6, 6), (7, 7) and (6, 8) turned over: the patches at (6, 6) and (6, 7), and a run of 5 in the row 6.
        self.assert_faults(flipped(chessboard(), (6, 6), (7, 7), (6, 8)), 2 * 2 + 3)

    def test_like_neighbours(self):
        for cut in (1, 5, 14):
            square = square_of(15, lambda row, column: (row + column + (1 if row >= cut else 0)) % 2 == 0)
            self.assert_faults(square, 9)
        square = square_of(15, lambda row, column: (row + column + (row > 3) + (column > 8)) % 2 == 0)
        # A row and a column like their neighbours; where they cross stands a patch of four like cells.
        self.assert_faults(square, 9 + 9 + 2)
        # Three rows alike: the second is like the third, too.
        square = square_of(15, lambda row, column: (row + column + (row > 3) + (row > 4)) % 2 == 0)
        self.assert_faults(square, 9 + 9)

    def test_rows_that_are_like_others_but_not_neighbours(self):
        self.assert_faults(square_of(15, lambda row, column: (row + column) % 2 == 0), 0)
        self.assertEqual(chessboard()[0], chessboard()[2])

    def test_dark_and_light(self):
        # Two of three cells dark, without a run of 3 or a patch: 150 against 75, parted by 15.
        self.assert_faults(square_of(15, lambda row, column: (row + column) % 3 != 0), 5)
        # 361 cells, 121 of them light: 119 more dark ones, parted by 19 with a rest of 5.
        square = square_of(19, lambda row, column: (row + column) % 3 != 0)
        self.assertEqual(sum(row.count(0) for row in square), 121)
        self.assert_faults(square, 6)

    def test_the_count_is_parted_without_rest(self):
        # 113 dark cells and 112 light ones; each light one turned over makes two more.
        light = [(row, column) for row in range(1, 14, 4) for column in range(2, 13, 4)]
        self.assert_faults(flipped(chessboard(), *light[:6]), 0)
        self.assert_faults(flipped(chessboard(), *light[:7]), 1)

    def test_squares_by_chance(self):
        chance = Random(1)
        for size in ROOMS:
            for weights in ((1, 1), (1, 3), (4, 1), (30, 1), (1, 30)):
                for _ in range(3):
                    square = [chance.choices((0, 1), weights, k=size) for _ in range(size)]
                    self.assertEqual(square_faults(square), expected_faults(square))
                    self.assert_faults(square, expected_faults(square))

    def test_laid_squares(self):
        chance = Random(2)
        for size, room in ROOMS.items():
            for mask in range(8):
                square = laid_square([chance.randrange(64) for _ in range(room)], size, mask % 4, mask)
                self.assertEqual(square_faults(square), expected_faults(square))

    def test_the_square_stays_and_a_whole_number_is_told(self):
        for square in (chessboard(), square_of(15, lambda row, column: True)):
            before = [list(row) for row in square]
            self.assertIs(type(square_faults(square)), int)
            self.assertEqual(square, before)


class TestBestMask(unittest.TestCase):
    def ranks(self, grains, size, level):
        return [expected_faults(laid_square(grains, size, level, mask)) for mask in range(8)]

    def test_by_trying_all_eight(self):
        chance = Random(3)
        chosen = set()
        for size, room in ROOMS.items():
            for level in range(4):
                for grains in ([chance.randrange(64) for _ in range(room)], [0] * room, [63] * room, [42] * room,
                               [42, 21] * (room // 2) + [42] * (room % 2)):
                    ranks = self.ranks(grains, size, level)
                    told = best_mask(grains, size, level)
                    self.assertEqual(told, (ranks.index(min(ranks)), min(ranks)))
                    chosen.add(told[0])
        self.assertGreaterEqual(len(chosen), 6)

    def test_each_mask_is_the_best_for_some_grains(self):
        # The grains that this mask lays as a chessboard.
        for mask in range(8):
            grains = taken_grains(chessboard(31), mask)[0]
            ranks = self.ranks(grains, 31, 0)
            self.assertEqual(ranks.index(min(ranks)), mask)
            self.assertEqual(best_mask(grains, 31, 0), (mask, min(ranks)))

    def test_of_equals_the_least(self):
        chance = Random(5)
        equals = 0
        while equals < 12:
            grains = [chance.randrange(64) for _ in range(16)]
            level = chance.randrange(4)
            ranks = self.ranks(grains, 15, level)
            if ranks.count(min(ranks)) > 1:
                equals += 1
                self.assertEqual(best_mask(grains, 15, level), (ranks.index(min(ranks)), min(ranks)))

    def test_the_grains_stay_and_whole_numbers_are_told(self):
        grains = [9] * 37
        told = best_mask(grains, 19, 2)
        self.assertEqual(grains, [9] * 37)
        self.assertIs(type(told), tuple)
        self.assertEqual([type(number) for number in told], [int, int])


if __name__ == "__main__":
    unittest.main()
