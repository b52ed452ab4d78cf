import unittest
from random import Random

from patchsquare.floor import data_places, label_places, mark_cells, ruler_cells
from patchsquare.labels import label_bits
from patchsquare.laying import laid_square, taken_grains
from patchsquare.masks import turns_over

ROOMS = {15: 16, 19: 37, 23: 64, 27: 96, 31: 133}
EVERY = [(size, level, mask) for size in ROOMS for level in range(4) for mask in range(8)]


def grains_by_chance(chance, size):
    return [chance.randrange(64) for _ in range(ROOMS[size])]


# The bits that stand at the data places ahead of the mask.
def bits_at_places(grains, size):
    word = "".join(f"{grain:06b}" for grain in grains).ljust(len(data_places(size)), "0")
    return {place: int(sign) for place, sign in zip(data_places(size), word)}


def expected_square(grains, size, level, mask):
    cells = {(row, column): cell for row, column, cell in mark_cells(size) + ruler_cells(size)}
    cells.update(zip(label_places(size), label_bits(level, mask)))
    for (row, column), bit in bits_at_places(grains, size).items():
        cells[(row, column)] = bit ^ (1 if turns_over(mask, row, column) else 0)
    return [[cells[(row, column)] for column in range(size)] for row in range(size)]


def copied(square):
    return [list(row) for row in square]


class TestLaidSquare(unittest.TestCase):
    def test_a_square_written_out(self):
        # Grains of noughts under the mask 0 show the mask: dark in the even rows.
        drawn = ["#####.#.#.#####",
                 "#...#.....#####",
                 "#.#.########.##",
                 "#...#.....#####",
                 "###############",
                 "...............",
                 "###############",
                 "...............",
                 "#####.#########",
                 ".........#.....",
                 "......####.....",
                 ".###.......###.",
                 ".#.#..####.#.#.",
                 ".###.......###.",
                 "......####....."]
        told = laid_square([0] * 16, 15, 0, 0)
        self.assertEqual(["".join(".#"[cell] for cell in row) for row in told], drawn)

    def test_bits_in_their_order(self):
        # The first grain's bits go down the columns of the first strip, the greatest bit first.
        square = laid_square([0b110100] + [0] * 15, 15, 0, 1)
        bits = [square[row][column] ^ (column % 2 == 0) for row, column in
                ((1, 5), (2, 5), (1, 6), (2, 6), (1, 7), (2, 7))]
        self.assertEqual(bits, [1, 1, 0, 1, 0, 0])

    def test_each_size_level_and_mask_cell_by_cell(self):
        chance = Random(1)
        for size, level, mask in EVERY:
            with self.subTest(size=size, level=level, mask=mask):
                grains = grains_by_chance(chance, size)
                self.assertEqual(laid_square(grains, size, level, mask), expected_square(grains, size, level, mask))

    def test_all_bits_alike(self):
        for size, level, mask in EVERY[::5]:
            for grain in (0, 63):
                grains = [grain] * ROOMS[size]
                self.assertEqual(laid_square(grains, size, level, mask), expected_square(grains, size, level, mask))

    def test_the_data_places_that_are_left(self):
        for size, level, mask in EVERY:
            left = data_places(size)[6 * ROOMS[size]:]
            self.assertEqual(len(left), {15: 2, 19: 4, 23: 2, 27: 2, 31: 4}[size])
            square = laid_square([63] * ROOMS[size], size, level, mask)
            for row, column in left:
                self.assertEqual(square[row][column], 1 if turns_over(mask, row, column) else 0)

    def test_the_floor_is_never_turned_over(self):
        for size, level, mask in EVERY:
            square = laid_square([21] * ROOMS[size], size, level, mask)
            for row, column, cell in mark_cells(size) + ruler_cells(size):
                self.assertEqual(square[row][column], cell)
            self.assertEqual([square[row][column] for row, column in label_places(size)], label_bits(level, mask))

    def test_told_is_a_new_square_of_whole_numbers(self):
        for size in ROOMS:
            grains = [42] * ROOMS[size]
            told = laid_square(grains, size, 1, 3)
            self.assertEqual(grains, [42] * ROOMS[size])
            self.assertIs(type(told), list)
            self.assertEqual([len(row) for row in told], [size] * size)
            self.assertEqual({type(row) for row in told}, {list})
            self.assertEqual({type(cell) for row in told for cell in row}, {int})
            self.assertEqual(len({id(row) for row in told}), size)
            told[0][0] = 7
            told[1].clear()
            self.assertEqual(laid_square(grains, size, 1, 3), expected_square(grains, size, 1, 3))


class TestTakenGrains(unittest.TestCase):
    def test_the_grains_of_each_laid_square(self):
        chance = Random(2)
        for size, level, mask in EVERY:
            with self.subTest(size=size, level=level, mask=mask):
                grains = grains_by_chance(chance, size)
                self.assertEqual(taken_grains(expected_square(grains, size, level, mask), mask), (grains, []))

    def test_one_missing_cell_of_each_grain(self):
        chance = Random(3)
        for size in ROOMS:
            grains = [chance.randrange(1, 64) for _ in range(ROOMS[size])]
            square = expected_square(grains, size, 0, 5)
            places = data_places(size)
            for number in range(ROOMS[size]):
                row, column = places[6 * number + number % 6]
                spoilt = copied(square)
                spoilt[row][column] = None
                expected = grains[:number] + [0] + grains[number + 1:]
                self.assertEqual(taken_grains(spoilt, 5), (expected, [number]))

    def test_each_cell_of_a_grain(self):
        grains = [63] * 16
        places = data_places(15)
        for mask in range(8):
            for step in range(6):
                square = expected_square(grains, 15, 2, mask)
                row, column = places[6 * 7 + step]
                square[row][column] = None
                self.assertEqual(taken_grains(square, mask), ([63] * 7 + [0] + [63] * 8, [7]))

    def test_many_missing_cells(self):
        chance = Random(4)
        for size, level, mask in EVERY[::3]:
            grains = [chance.randrange(1, 64) for _ in range(ROOMS[size])]
            square = expected_square(grains, size, level, mask)
            missing = set()
            for place in chance.sample(range(6 * ROOMS[size]), chance.randrange(1, 60)):
                row, column = data_places(size)[place]
                square[row][column] = None
                missing.add(place // 6)
            expected = [0 if number in missing else grain for number, grain in enumerate(grains)]
            self.assertEqual(taken_grains(square, mask), (expected, sorted(missing)))

    def test_all_cells_missing(self):
        for size, room in ROOMS.items():
            told = taken_grains([[None] * size for _ in range(size)], 2)
            self.assertEqual(told, ([0] * room, list(range(room))))

    def test_wrong_cells_are_read_as_they_are(self):
        for size in ROOMS:
            square = expected_square([0] * ROOMS[size], size, 0, 4)
            row, column = data_places(size)[6]
            square[row][column] = 1 - square[row][column]
            self.assertEqual(taken_grains(square, 4), ([0, 32] + [0] * (ROOMS[size] - 2), []))

    def test_other_places_are_not_looked_at(self):
        chance = Random(5)
        for size, level, mask in EVERY[::3]:
            grains = grains_by_chance(chance, size)
            looked_at = set(data_places(size)[:6 * ROOMS[size]])
            square = expected_square(grains, size, level, mask)
            for other in ("chance", None, 0, 1):
                for row in range(size):
                    for column in range(size):
                        if (row, column) not in looked_at:
                            square[row][column] = chance.choice((0, 1, None)) if other == "chance" else other
                self.assertEqual(taken_grains(square, mask), (grains, []))

    def test_another_mask_takes_other_grains(self):
        grains = [0] * 133
        square = expected_square(grains, 31, 0, 0)
        for mask in range(1, 8):
            self.assertNotEqual(taken_grains(square, mask)[0], grains)

    def test_the_square_stays_and_what_is_told_is_new(self):
        for size in ROOMS:
            square = expected_square([7] * ROOMS[size], size, 3, 6)
            row, column = data_places(size)[20]
            square[row][column] = None
            before = copied(square)
            told = taken_grains(square, 6)
            self.assertEqual(square, before)
            self.assertIs(type(told), tuple)
            self.assertEqual([type(part) for part in told], [list, list])
            self.assertEqual({type(number) for part in told for number in part}, {int})
            again = (list(told[0]), list(told[1]))
            told[0].append(1)
            told[1].append(1)
            self.assertEqual(square, before)
            self.assertEqual(taken_grains(square, 6), again)


if __name__ == "__main__":
    unittest.main()
