import unittest

from patchsquare.blocks import data_room
from patchsquare.errors import NoSign, TooLong
from patchsquare.faults import square_faults
from patchsquare.grains import text_grains
from patchsquare.laying import laid_square
from patchsquare.wrapping import wrapped_grains
from patchsquare.writing import written_at, written_square

SIZES = (15, 19, 23, 27, 31)
EVERY = [(size, level) for size in SIZES for level in range(4)]

# The empty text at level 0, and HELLO 2026 at level 1.
EMPTY = """
#####.#.#.#####
#...#.##.######
#.#.#..#..##.##
#...#####.#####
#####....######
.#..##..#.#.#.#
###.#..##....##
..######.####.#
##.##...#.##.#.
....#.#.###.#..
.....#...#.....
.###.###...###.
.#.#.......#.#.
.###..#.#..###.
.....#.........
""".split()
HELLO = """
#####.#.#.#.#.#####
#...###.#.#.#.#####
#.#.#.##.##..###.##
#...###.#..##.#####
#######...#########
.####.....#####..##
#..####.##..##..##.
..#.#.#...##..##..#
####..###..##..##..
.#..#.##..##..##..#
#.##.#..##..##..##.
.#..#..##..##..##..
#.##...##..#..#..##
.##.#..##.#.###.#.#
........#.#.##.....
.###.#..##...#.###.
.#.#.#.##..#...#.#.
.###.#.#.#.###.###.
.....##.###.#......
""".split()
# 7 at the size 15, the level 3 and the mask 5.
SEVEN = """
#####.#.#.#####
#...##.#.######
#.#.#.##.###.##
#...####.######
#####.#.#.#####
.##....######..
#..###..##...#.
....#.##..#..##
#...#..###.#.#.
..#..#.#.#.#.#.
.....#####.....
.###.#.#...###.
.#.#.#.#.#.#.#.
.###....##.###.
...............
""".split()
# Two pieces of text in two blocks, at level 1 (its best mask is 5).
TWO_BLOCKS = "Two blocks, 1234567890 of them: a GOOD deal."
TWO_BLOCKS_DRAWN = """
#####.#.#.#.#.#.#.#.#.#####
#...#...#######..####.#####
#.#.#.##..#....##.######.##
#...#.#.##.####..####.#####
#####..#..#..#.##...#.#####
.##....#####.###.#..##..###
#.###.##.##.###..##...#.###
.##.##.####.#...#...###....
##.#.##..##...#.#.##.#.###.
...###.##########.#.#..#..#
#..####....#.##...##.##.#..
.########.##.#.#.#..#...##.
##.#.#####..#..#.####.#.###
..###..##.....#....###...##
##..##..#.#.#####.###.##..#
.#.#..#..#.#..##.#.#..####.
#.##.###.###...###..#...#..
.#...##....#.#..#.#..###.#.
##.#......#....#####.##..#.
....##..###.#.#...#.###..#.
##.###.#..#.#..#.###.####.#
....#..##..#.##..#.####..##
......#..#.###....#.#......
.###..#.....#..#..#.##.###.
.#.#..#.#.#####...#..#.#.#.
.###.#....####...#.###.###.
.....#.#.####.#.#..#.......
""".split()


def drawn(square):
    return ["".join(".#"[cell] for cell in row) for row in square]


# Texts by how many grains they have: capitals, and capitals in one piece with a small letter behind them.
def texts_by_grains():
    texts = {}
    for count in range(140):
        # Pieces have 64 signs at most, so more capitals need another head.
        bits = 8 * ((count + 63) // 64) + 5 * count + 2
        texts.setdefault((bits + 5) // 6, "K" * count)
        if 5 <= count < 64:
            texts.setdefault((bits + 15 + 5) // 6, "K" * count + "z")
    return texts


TEXTS = texts_by_grains()


class TestTheTextsOfTheseTests(unittest.TestCase):
    def test_they_have_just_so_many_grains(self):
        for size, level in EVERY:
            for count in (data_room(size, level), data_room(size, level) + 1):
                self.assertEqual(len(text_grains(TEXTS[count], count)), count)
                with self.assertRaises(TooLong):
                    text_grains(TEXTS[count], count - 1)


class TestWrittenAt(unittest.TestCase):
    def assert_too_long(self, text, size, level):
        for mask in (0, 7):
            with self.assertRaises(TooLong):
                written_at(text, size, level, mask)

    def test_written_out(self):
        self.assertEqual(drawn(written_at("", 15, 0, 7)), EMPTY)
        self.assertEqual(drawn(written_at("HELLO 2026", 19, 1, 1)), HELLO)
        self.assertEqual(drawn(written_at("7", 15, 3, 5)), SEVEN)
        self.assertEqual(drawn(written_at(TWO_BLOCKS, 27, 1, 5)), TWO_BLOCKS_DRAWN)

    def test_each_size_level_and_mask(self):
        for size, level in EVERY:
            for mask in range(8):
                for text in ("", "7", "Ab1", "QR"):
                    with self.subTest(size=size, level=level, mask=mask, text=text):
                        grains = text_grains(text, data_room(size, level))
                        expected = laid_square(wrapped_grains(grains, size, level), size, level, mask)
                        self.assertEqual(written_at(text, size, level, mask), expected)

    def test_texts_that_just_fit(self):
        for size, level in EVERY:
            text = TEXTS[data_room(size, level)]
            grains = text_grains(text, data_room(size, level))
            expected = laid_square(wrapped_grains(grains, size, level), size, level, 3)
            self.assertEqual(written_at(text, size, level, 3), expected)

    def test_texts_that_are_one_grain_too_long(self):
        for size, level in EVERY:
            self.assert_too_long(TEXTS[data_room(size, level) + 1], size, level)

    def test_texts_that_are_far_too_long(self):
        for size, level in EVERY:
            self.assert_too_long("a" * 300, size, level)

    def test_a_strange_sign_goes_ahead_of_the_length(self):
        for size, level in EVERY:
            for text, place in (("\n", 0), ("ab\tc\n", 2), ("7" * 299 + "\t", 299), ("A\n" + "a" * 298, 1)):
                with self.assertRaises(NoSign) as taken:
                    written_at(text, size, level, 0)
                self.assertEqual(taken.exception.place, place)

    def test_told_is_a_new_square_of_whole_numbers(self):
        for size, level in EVERY:
            told = written_at("Ab1", size, level, 4)
            self.assertIs(type(told), list)
            self.assertEqual({type(row) for row in told}, {list})
            self.assertEqual([len(row) for row in told], [size] * size)
            self.assertEqual(len({id(row) for row in told}), size)
            self.assertEqual({type(cell) for row in told for cell in row}, {int})
            before = [list(row) for row in told]
            for row in told:
                row.clear()
            self.assertEqual(written_at("Ab1", size, level, 4), before)


class TestWrittenSquare(unittest.TestCase):
    # The least size by trying each, the best mask by trying all eight.
    def assert_least_and_best(self, text, level, size):
        tried = [written_at(text, size, level, mask) for mask in range(8)]
        faults = [square_faults(square) for square in tried]
        told = written_square(text, level)
        self.assertEqual(len(told), size)
        self.assertEqual(told, tried[faults.index(min(faults))])

    def test_written_out(self):
        self.assertEqual(drawn(written_square("", 0)), EMPTY)
        self.assertEqual(drawn(written_square("HELLO 2026", 1)), HELLO)
        self.assertEqual(drawn(written_square(TWO_BLOCKS, 1)), TWO_BLOCKS_DRAWN)

    def test_the_least_size_for_texts_that_just_fit(self):
        for size, level in EVERY:
            with self.subTest(size=size, level=level):
                self.assert_least_and_best(TEXTS[data_room(size, level)], level, size)

    def test_one_grain_more_needs_the_next_size(self):
        for level in range(4):
            for size, larger in zip(SIZES, SIZES[1:]):
                with self.subTest(size=size, level=level):
                    self.assert_least_and_best(TEXTS[data_room(size, level) + 1], level, larger)

    def test_too_long_for_all_sizes(self):
        for level in range(4):
            for text in (TEXTS[data_room(31, level) + 1], "a" * 300, "7" * 300):
                with self.assertRaises(TooLong):
                    written_square(text, level)

    def test_the_empty_text_has_the_least_size(self):
        for level in range(4):
            self.assert_least_and_best("", level, 15)

    def test_of_equals_the_least_mask(self):
        equals = 0
        for number in range(1000):
            text = str(number)
            faults = [square_faults(written_at(text, 15, 0, mask)) for mask in range(8)]
            if faults.count(min(faults)) > 1:
                equals += 1
                self.assertEqual(written_square(text, 0), written_at(text, 15, 0, faults.index(min(faults))))
                if equals == 8:
                    return
        self.fail("no equals among these texts")

    def test_a_strange_sign_goes_ahead_of_the_length(self):
        for level in range(4):
            for text, place in (("\t", 0), ("abc\n\t", 3), ("z" * 299 + "\n", 299), ("Q" * 150 + "\na", 150)):
                with self.assertRaises(NoSign) as taken:
                    written_square(text, level)
                self.assertEqual(taken.exception.place, place)

    def test_told_is_a_new_square_of_whole_numbers(self):
        told = written_square("Ab1", 2)
        self.assertEqual(len({id(row) for row in told}), len(told))
        self.assertEqual({type(cell) for row in told for cell in row}, {int})
        before = [list(row) for row in told]
        for row in told:
            row.clear()
        self.assertEqual(written_square("Ab1", 2), before)


if __name__ == "__main__":
    unittest.main()
