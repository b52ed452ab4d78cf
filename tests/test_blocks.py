import unittest
from random import Random

from patchsquare.blocks import block_shapes, data_room, dealt_rows, parted_rows

# By size and level: (data, checks) of each block.
SHAPES = {
    (15, 0): [(12, 4)],
    (15, 1): [(10, 6)],
    (15, 2): [(8, 8)],
    (15, 3): [(6, 10)],
    (19, 0): [(31, 6)],
    (19, 1): [(27, 10)],
    (19, 2): [(23, 14)],
    (19, 3): [(17, 20)],
    (23, 0): [(26, 6), (26, 6)],
    (23, 1): [(22, 10), (22, 10)],
    (23, 2): [(18, 14), (18, 14)],
    (23, 3): [(14, 18), (14, 18)],
    (27, 0): [(40, 8), (40, 8)],
    (27, 1): [(34, 14), (34, 14)],
    (27, 2): [(28, 20), (28, 20)],
    (27, 3): [(22, 26), (22, 26)],
    (31, 0): [(38, 6), (38, 6), (39, 6)],
    (31, 1): [(32, 12), (32, 12), (33, 12)],
    (31, 2): [(26, 18), (26, 18), (27, 18)],
    (31, 3): [(20, 24), (20, 24), (21, 24)],
}
ROOMS = {15: 16, 19: 37, 23: 64, 27: 96, 31: 133}


class TestBlockShapes(unittest.TestCase):
    def test_all_sizes_and_levels(self):
        for (size, level), shapes in SHAPES.items():
            with self.subTest(size=size, level=level):
                self.assertEqual(block_shapes(size, level), shapes)
                self.assertEqual(sum(data + checks for data, checks in shapes), ROOMS[size])

    def test_told_kinds(self):
        for size, level in SHAPES:
            told = block_shapes(size, level)
            self.assertIs(type(told), list)
            self.assertEqual({type(shape) for shape in told}, {tuple})
            self.assertEqual({type(count) for shape in told for count in shape}, {int})

    def test_a_changed_list_changes_no_later_answer(self):
        for size, level in SHAPES:
            told = block_shapes(size, level)
            told[0] = (1, 1)
            told.append((2, 2))
            self.assertEqual(block_shapes(size, level), SHAPES[(size, level)])


class TestDataRoom(unittest.TestCase):
    def test_all_sizes_and_levels(self):
        for (size, level), shapes in SHAPES.items():
            with self.subTest(size=size, level=level):
                told = data_room(size, level)
                self.assertEqual(told, sum(data for data, checks in shapes))
                self.assertIs(type(told), int)

    def test_written_out(self):
        self.assertEqual([data_room(size, 0) for size in ROOMS], [12, 31, 52, 80, 115])
        self.assertEqual([data_room(size, 3) for size in ROOMS], [6, 17, 28, 44, 61])


# Rows of these lengths, and what dealing them by turns makes.
DEALT = [
    ([[]], []),
    ([[7]], [7]),
    ([[1, 2, 3]], [1, 2, 3]),
    ([[1, 2, 3], [4, 5, 6]], [1, 4, 2, 5, 3, 6]),
    ([[1, 2, 3], [4]], [1, 4, 2, 3]),
    ([[4], [1, 2, 3]], [4, 1, 2, 3]),
    ([[1, 2], [3, 4], [5, 6, 7]], [1, 3, 5, 2, 4, 6, 7]),
    ([[], [1, 2]], [1, 2]),
    ([[1, 2], []], [1, 2]),
    ([[], [], []], []),
    ([[1], [], [2, 3], [], [4, 5, 6]], [1, 2, 4, 3, 5, 6]),
    ([[0, 0, 9], [0], [5, 5], [5]], [0, 0, 5, 5, 0, 5, 9]),
]


def rows_by_chance(chance):
    return [[chance.randrange(64) for _ in range(chance.choice((0, 1, 2, 3, 10, 44, 62, 63)))]
            for _ in range(chance.randrange(1, 6))]


# By sorting: each grain's turn goes first, then its row.
def dealt_by_sorting(rows):
    keyed = [(turn, number, grain) for number, row in enumerate(rows) for turn, grain in enumerate(row)]
    return [grain for turn, number, grain in sorted(keyed, key=lambda entry: entry[:2])]


class TestDealtRows(unittest.TestCase):
    def test_written_out(self):
        for rows, dealt in DEALT:
            with self.subTest(rows=rows):
                self.assertEqual(dealt_rows(rows), dealt)

    def test_by_chance(self):
        chance = Random(1)
        for _ in range(200):
            rows = rows_by_chance(chance)
            self.assertEqual(dealt_rows(rows), dealt_by_sorting(rows))

    def test_what_is_handed_in_stays_and_what_is_told_is_new(self):
        for rows, dealt in DEALT:
            handed = [list(row) for row in rows]
            told = dealt_rows(handed)
            self.assertIs(type(told), list)
            self.assertEqual(handed, rows)
            self.assertFalse(any(told is row for row in handed))
            self.assertIsNot(told, handed)
            told.append(63)
            self.assertEqual(handed, rows)
            self.assertEqual(dealt_rows(handed), dealt)


class TestPartedRows(unittest.TestCase):
    def test_written_out(self):
        for rows, dealt in DEALT:
            with self.subTest(rows=rows):
                self.assertEqual(parted_rows(dealt, [len(row) for row in rows]), rows)

    def test_by_chance(self):
        chance = Random(2)
        for _ in range(200):
            rows = rows_by_chance(chance)
            self.assertEqual(parted_rows(dealt_by_sorting(rows), [len(row) for row in rows]), rows)

    def test_the_blocks_of_each_size(self):
        chance = Random(3)
        for size, level in SHAPES:
            counts = [data + checks for data, checks in SHAPES[(size, level)]]
            rows = [[chance.randrange(64) for _ in range(count)] for count in counts]
            self.assertEqual(parted_rows(dealt_rows(rows), counts), rows)

    def test_what_is_handed_in_stays_and_what_is_told_is_new(self):
        for rows, dealt in DEALT:
            grains, counts = list(dealt), [len(row) for row in rows]
            told = parted_rows(grains, counts)
            self.assertIs(type(told), list)
            self.assertEqual({type(row) for row in told}, {list})
            self.assertEqual((grains, counts), (dealt, [len(row) for row in rows]))
            lists = told + [told, grains, counts]
            self.assertEqual(len({id(one) for one in lists}), len(lists))
            for row in told:
                row.append(63)
            self.assertEqual((grains, counts), (dealt, [len(row) for row in rows]))
            self.assertEqual(told, [row + [63] for row in rows])
            self.assertEqual(parted_rows(grains, counts), rows)


if __name__ == "__main__":
    unittest.main()
