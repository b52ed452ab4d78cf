import unittest

from patchsquare.errors import NoLabel, NoMarks, NoMend, NoPicture, NoText, SquareError
from patchsquare.floor import data_places, label_places
from patchsquare.laying import laid_square
from patchsquare.pictures import picture_of
from patchsquare.reports import report_on
from patchsquare.turning import turned_square
from patchsquare.wrapping import wrapped_grains
from patchsquare.writing import written_at, written_square


def flip(square, places):
    for row, column in places:
        square[row][column] = 1 - square[row][column]


def blank(square, places):
    for row, column in places:
        square[row][column] = None


# The first cell of each of these grains.
def first_cells(size, grains):
    return [data_places(size)[6 * grain] for grain in grains]


class TestReportOn(unittest.TestCase):
    def assert_report(self, square, rows):
        told = report_on(picture_of(square))
        self.assertIs(type(told), str)
        self.assertEqual(told.split("\n"), rows)

    def test_a_picture_written_out(self):
        picture = "\n".join("""
            #####.#.#.#.#.#####
            #...###.#.#.#.#####
            #.#.#.##.##..###.##
            #...###.#..##.#####
            #######...#########
            .####.....#####..##
            #..####.##..##..##.
            ..#.#.#...##..##..#
            ####..###..##..##..
            .#..#.##..##..##..#
            #.##.#..##..##..##.
            .#..#..##..##..##..
            #.##...##..#..#..##
            .##.#..##.#.###.#.#
            ........#.#.##.....
            .###.#..##...#.###.
            .#.#.#.##..#...#.#.
            .###.#.#.#.###.###.
            .....##.###.#......
            """.split())
        self.assertEqual(report_on(picture),
                         "text HELLO 2026\nsize 19 level 1 mask 1 turn 0\nmarks 0\nlabel 0 0\nblock 0 0")

    def test_one_block(self):
        square = written_at("a b  ", 19, 2, 6)
        flip(square, [(0, 0), (18, 18)])
        blank(square, [(2, 2)])
        flip(square, label_places(19)[3:5])
        blank(square, label_places(19)[10:13])
        flip(square, first_cells(19, [0, 5, 36, 20]))
        blank(square, first_cells(19, [1, 6]))
        self.assert_report(turned_square(square, 5),
                           ["text a b  ", "size 19 level 2 mask 6 turn 5", "marks 3", "label 2 3", "block 4 2"])

    def test_two_blocks(self):
        square = written_at("TWO: 22", 27, 3, 0)
        flip(square, first_cells(27, range(0, 26, 2)))
        blank(square, first_cells(27, range(1, 53, 2)))
        self.assert_report(turned_square(square, 2),
                           ["text TWO: 22", "size 27 level 3 mask 0 turn 2", "marks 0", "label 0 0", "block 13 0",
                            "block 0 26"])

    def test_three_blocks(self):
        square = written_at("block 1 1", 31, 1, 7)
        flip(square, first_cells(31, [1, 4, 132]))
        blank(square, first_cells(31, [131, 128, 0]))
        self.assert_report(turned_square(square, 7),
                           ["text block 1 1", "size 31 level 1 mask 7 turn 7", "marks 0", "label 0 0", "block 0 1",
                            "block 2 0", "block 1 2"])

    def test_the_empty_text(self):
        self.assert_report(written_at("", 15, 0, 7),
                           ["text ", "size 15 level 0 mask 7 turn 0", "marks 0", "label 0 0", "block 0 0"])

    def test_any_signs(self):
        for text in ("{told[0]}", "\\n'\"", "text size", " ", "{}"):
            told = report_on(picture_of(written_square(text, 1))).split("\n")
            self.assertEqual(told[0], "text " + text)
            self.assertEqual(len(told), 5)

    def test_no_line_end_at_the_end(self):
        self.assertFalse(report_on(picture_of(written_at("", 15, 0, 7))).endswith("\n"))


class TestRefusals(unittest.TestCase):
    def assert_refused(self, error, picture):
        with self.assertRaises(SquareError) as taken:
            report_on(picture)
        self.assertIs(type(taken.exception), error)
        return taken.exception

    def test_those_of_pictures_go_first(self):
        self.assertEqual(self.assert_refused(NoPicture, "").row, 0)
        self.assertEqual(self.assert_refused(NoPicture, "\n".join(["." * 14] * 14)).row, 0)
        self.assertEqual(self.assert_refused(NoPicture, "\n".join(["." * 15] * 14 + ["x" * 15])).row, 14)
        self.assertEqual(self.assert_refused(NoPicture, "\n".join(["." * 15] * 4 + ["." * 16] * 11)).row, 4)
        good = picture_of(written_at("7", 15, 0, 0))
        self.assertEqual(self.assert_refused(NoPicture, good + "\n").row, 0)
        self.assertEqual(self.assert_refused(NoPicture, good[:-1] + " ").row, 14)

    def test_those_of_squares_then(self):
        self.assert_refused(NoMarks, "\n".join(["." * 15] * 15))
        self.assert_refused(NoMarks, "\n".join(["?" * 31] * 31))
        square = written_at("7", 23, 0, 0)
        blank(square, label_places(23)[:8])
        self.assert_refused(NoLabel, picture_of(square))
        for block in range(2):
            square = written_at("7", 23, 0, 0)
            blank(square, first_cells(23, range(block, 14, 2)))
            self.assertEqual(self.assert_refused(NoMend, picture_of(square)).block, block)
        grains = wrapped_grains([63] * 52, 23, 0)
        self.assert_refused(NoText, picture_of(laid_square(grains, 23, 0, 0)))


if __name__ == "__main__":
    unittest.main()
