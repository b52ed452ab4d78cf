import unittest
from random import Random

from patchsquare.errors import NoPicture
from patchsquare.pictures import picture_of, read_picture
from patchsquare.writing import written_at

SIZES = (15, 19, 23, 27, 31)


def by_chance(chance, size):
    return [[chance.choice((0, 1, None)) for _ in range(size)] for _ in range(size)]


def expected_picture(square):
    return "\n".join("".join({1: "#", 0: ".", None: "?"}[cell] for cell in row) for row in square)


class TestPictureOf(unittest.TestCase):
    def test_written_out(self):
        square = [[0] * 15 for _ in range(15)]
        square[0][0] = 1
        square[0][14] = None
        square[14][1] = 1
        square[14][2] = None
        rows = ["#.............?"] + ["..............."] * 13 + [".#?............"]
        self.assertEqual(picture_of(square), "\n".join(rows))

    def test_each_size(self):
        chance = Random(1)
        for size in SIZES:
            square = by_chance(chance, size)
            told = picture_of(square)
            self.assertIs(type(told), str)
            self.assertEqual(told, expected_picture(square))
            self.assertEqual(len(told), size * (size + 1) - 1)

    def test_all_cells_alike(self):
        for size in SIZES:
            for cell, sign in ((1, "#"), (0, "."), (None, "?")):
                told = picture_of([[cell] * size for _ in range(size)])
                self.assertEqual(told, "\n".join([sign * size] * size))

    def test_a_written_square(self):
        self.assertEqual(picture_of(written_at("7", 15, 3, 5)).split("\n")[:3],
                         ["#####.#.#.#####", "#...##.#.######", "#.#.#.##.###.##"])

    def test_the_square_stays(self):
        square = by_chance(Random(2), 15)
        before = [list(row) for row in square]
        picture_of(square)
        self.assertEqual(square, before)


class TestReadPicture(unittest.TestCase):
    def assert_refused(self, picture, row):
        with self.assertRaises(NoPicture) as taken:
            read_picture(picture)
        self.assertEqual(taken.exception.row, row)
        self.assertIs(type(taken.exception.row), int)

    def test_each_size_and_back(self):
        chance = Random(3)
        for size in SIZES:
            for _ in range(3):
                square = by_chance(chance, size)
                self.assertEqual(read_picture(expected_picture(square)), square)
                self.assertEqual(read_picture(picture_of(square)), square)

    def test_told_is_a_new_square(self):
        picture = "\n".join(["#.?" * 5] * 15)
        told = read_picture(picture)
        self.assertEqual(told, [[1, 0, None] * 5] * 15)
        self.assertEqual(len({id(row) for row in told}), 15)
        self.assertEqual({type(row) for row in told}, {list})
        self.assertEqual({type(cell) for row in told for cell in row}, {int, type(None)})
        told[0].clear()
        self.assertEqual(told[1:], [[1, 0, None] * 5] * 14)
        self.assertEqual(read_picture(picture), [[1, 0, None] * 5] * 15)

    def test_an_empty_picture(self):
        self.assert_refused("", 0)

    def test_counts_of_rows_that_are_no_size(self):
        for count in range(1, 40):
            if count not in SIZES:
                self.assert_refused("\n".join(["#" * count] * count), 0)
        for count in range(1, 40):
            self.assert_refused("\n" * count, 0)

    def test_a_line_end_at_the_end_or_the_start(self):
        for size in SIZES:
            picture = "\n".join(["#" * size] * size)
            self.assert_refused(picture + "\n", 0)
            self.assert_refused("\n" + picture, 0)
            self.assert_refused(picture + "\n\n", 0)

    def test_a_line_end_in_the_place_of_the_last_or_the_first_row(self):
        for size in SIZES:
            rows = "\n".join(["#" * size] * (size - 1))
            self.assert_refused(rows, 0)
            self.assert_refused(rows + "\n", size - 1)
            self.assert_refused("\n" + rows, 0)

    def test_the_count_of_rows_goes_first(self):
        for count in (14, 16, 30, 32):
            self.assert_refused("\n".join(["#" * count] * (count - 1) + ["x"]), 0)
            self.assert_refused("\n".join(["#" * count] * 5 + ["x"] * (count - 5)), 0)

    def test_a_row_of_another_length(self):
        for size in SIZES:
            for row in (0, 1, size // 2, size - 2, size - 1):
                for length in (0, 1, size - 1, size + 1, size + 4, size - 4):
                    rows = ["." * size] * size
                    rows[row] = "." * length
                    self.assert_refused("\n".join(rows), row)

    def test_a_row_with_another_sign(self):
        others = [chr(code) for code in range(32, 127) if chr(code) not in "#.?%"]
        for size in SIZES:
            for row in (0, 1, size // 2, size - 1):
                for column in (0, size // 2, size - 1):
                    for sign in others[(row + column) % 7::7]:
                        rows = ["?" * size] * size
                        rows[row] = "?" * column + sign + "?" * (size - 1 - column)
                        self.assert_refused("\n".join(rows), row)

    def test_each_other_sign(self):
        for code in range(32, 127):
            if chr(code) not in "#.?%":
                self.assert_refused("\n".join(["." * 15] * 7 + ["#" * 14 + chr(code)] + ["." * 15] * 7), 7)

    def test_the_first_of_several(self):
        good = "#" * 15
        for bad, worse in (("#" * 14, "#" * 14 + "x"), ("#" * 14 + "x", "#" * 14), ("", "x" * 15), ("x" * 20, "")):
            rows = [good] * 15
            rows[3] = bad
            rows[9] = worse
            self.assert_refused("\n".join(rows), 3)
            rows[0] = worse
            self.assert_refused("\n".join(rows), 0)

    def test_all_rows_of_another_length(self):
        for size in SIZES:
            for length in (0, size - 1, size + 1, size + 4):
                self.assert_refused("\n".join(["#" * length] * size), 0)


if __name__ == "__main__":
    unittest.main()
