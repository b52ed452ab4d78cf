import unittest

from patchsquare.floor import data_places, label_places, mark_cells, ruler_cells

SIZES = (15, 19, 23, 27, 31)
DATA_COUNTS = {15: 98, 19: 226, 23: 386, 27: 578, 31: 802}

# Dark and light cells as # and ., the label's places by their numbers, the data places blank.
DRAWINGS = {
    15: ["#####.#.#.#####",
         "#...#     #####",
         "#.#.#     ##.##",
         "#...#     #####",
         "#####     #####",
         ".01234567      ",
         "#              ",
         ".    F         ",
         "#    E         ",
         ".    D   #     ",
         ".....C    .....",
         ".###.B    .###.",
         ".#.#.A    .#.#.",
         ".###.9    .###.",
         ".....8    ....."],
    19: ["#####.#.#.#.#.#####",
         "#...#         #####",
         "#.#.#         ##.##",
         "#...#         #####",
         "#####         #####",
         ".01234567          ",
         "#                  ",
         ".                  ",
         "#                  ",
         ".                  ",
         "#                  ",
         ".    F             ",
         "#    E             ",
         ".    D       #     ",
         ".....C        .....",
         ".###.B        .###.",
         ".#.#.A        .#.#.",
         ".###.9        .###.",
         ".....8        ....."],
}


def drawn_cells(size):
    rows = DRAWINGS[size]
    return [(row, column, 1 if sign == "#" else 0)
            for row, signs in enumerate(rows) for column, sign in enumerate(signs) if sign in "#."]


def in_mark(size, line):
    return line < 5 or line >= size - 5


# A mark's cell by how far it lies from the mark's middle.
def expected_marks(size):
    rings = {(2, 2): (1, 0, 1), (2, size - 3): (0, 1, 1), (size - 3, 2): (0, 1, 0), (size - 3, size - 3): (0, 1, 0)}
    cells = []
    for (row, column), ring in rings.items():
        for down in range(-2, 3):
            for right in range(-2, 3):
                cells.append((row + down, column + right, ring[max(abs(down), abs(right))]))
    return sorted(cells)


def expected_rulers(size):
    cells = [(0, column, 1 - column % 2) for column in range(5, size - 5)]
    cells += [(row, 0, 1 - row % 2) for row in range(5, size - 5)]
    return sorted(cells + [(size - 6, size - 6, 1)])


class TestMarkCells(unittest.TestCase):
    def test_as_drawn(self):
        for size in DRAWINGS:
            drawn = [(row, column, cell) for row, column, cell in drawn_cells(size)
                     if in_mark(size, row) and in_mark(size, column)]
            self.assertEqual(mark_cells(size), drawn)

    def test_each_size_cell_by_cell_in_order(self):
        for size in SIZES:
            with self.subTest(size=size):
                self.assertEqual(mark_cells(size), expected_marks(size))
                self.assertEqual(len(mark_cells(size)), 100)

    def test_each_mark_apart(self):
        upper_left = ["#####", "#...#", "#.#.#", "#...#", "#####"]
        upper_right = ["#####", "#####", "##.##", "#####", "#####"]
        lower = [".....", ".###.", ".#.#.", ".###.", "....."]
        for size in SIZES:
            cells = {(row, column): cell for row, column, cell in mark_cells(size)}
            far = size - 5
            for top, left, mark in ((0, 0, upper_left), (0, far, upper_right), (far, 0, lower), (far, far, lower)):
                drawn = ["".join(".#"[cells[(top + row, left + column)]] for column in range(5)) for row in range(5)]
                self.assertEqual(drawn, mark)


class TestRulerCells(unittest.TestCase):
    def test_as_drawn(self):
        for size in DRAWINGS:
            drawn = [(row, column, cell) for row, column, cell in drawn_cells(size)
                     if not (in_mark(size, row) and in_mark(size, column))]
            self.assertEqual(ruler_cells(size), drawn)

    def test_each_size_cell_by_cell_in_order(self):
        for size in SIZES:
            with self.subTest(size=size):
                self.assertEqual(ruler_cells(size), expected_rulers(size))
                self.assertEqual(len(ruler_cells(size)), 2 * (size - 10) + 1)

    def test_written_out(self):
        self.assertEqual(ruler_cells(15), [(0, 5, 0), (0, 6, 1), (0, 7, 0), (0, 8, 1), (0, 9, 0), (5, 0, 0), (6, 0, 1),
                                           (7, 0, 0), (8, 0, 1), (9, 0, 0), (9, 9, 1)])


class TestLabelPlaces(unittest.TestCase):
    def test_as_drawn(self):
        for size, rows in DRAWINGS.items():
            drawn = {sign: (row, column) for row, signs in enumerate(rows) for column, sign in enumerate(signs)}
            self.assertEqual(label_places(size), [drawn[sign] for sign in "0123456789ABCDEF"])

    def test_each_size(self):
        for size in SIZES:
            with self.subTest(size=size):
                upper = [(5, 1), (5, 2), (5, 3), (5, 4), (5, 5), (5, 6), (5, 7), (5, 8)]
                lower = [(size - 1 - step, 5) for step in range(8)]
                self.assertEqual(label_places(size), upper + lower)

    def test_written_out(self):
        self.assertEqual(label_places(31)[8:], [(30, 5), (29, 5), (28, 5), (27, 5), (26, 5), (25, 5), (24, 5), (23, 5)])


class TestDataPlaces(unittest.TestCase):
    def test_the_first_and_the_last_of_the_least_size(self):
        places = data_places(15)
        self.assertEqual(places[:10], [(1, 5), (2, 5), (1, 6), (2, 6), (1, 7), (2, 7), (1, 8), (2, 8), (1, 9), (2, 9)])
        self.assertEqual(places[10:20], [(5, 14), (5, 13), (5, 12), (5, 11), (5, 10), (3, 9), (4, 9), (5, 9), (3, 8),
                                         (4, 8)])
        self.assertEqual(places[26], (6, 1))
        self.assertEqual(places[-12:], [(12, 6), (13, 6), (14, 6), (12, 7), (13, 7), (14, 7), (12, 8), (13, 8), (14, 8),
                                        (12, 9), (13, 9), (14, 9)])

    def test_the_last_strip_of_one_row_or_two(self):
        # 19 and 31 leave one row for the last strip, 23 leaves two.
        self.assertEqual(data_places(19)[-8:], [(18, column) for column in range(6, 14)])
        self.assertEqual(data_places(31)[-20:], [(30, column) for column in range(6, 26)])
        self.assertEqual(data_places(23)[-4:], [(21, 7), (22, 7), (21, 6), (22, 6)])
        self.assertEqual(data_places(27)[-3:], [(24, 21), (25, 21), (26, 21)])

    def test_each_size_by_sorting(self):
        for size in SIZES:
            with self.subTest(size=size):
                taken = {(row, column) for row, column, cell in expected_marks(size) + expected_rulers(size)}
                taken |= {(5, 1 + step) for step in range(8)} | {(size - 1 - step, 5) for step in range(8)}
                free = [(row, column) for row in range(size) for column in range(size) if (row, column) not in taken]
                order = sorted(free, key=lambda place: (place[0] // 3,
                                                        place[1] if place[0] // 3 % 2 == 0 else -place[1], place[0]))
                self.assertEqual(data_places(size), order)

    def test_counts(self):
        for size, count in DATA_COUNTS.items():
            self.assertEqual(len(data_places(size)), count)

    def test_as_drawn(self):
        for size, rows in DRAWINGS.items():
            drawn = [(row, column) for row, signs in enumerate(rows)
                     for column, sign in enumerate(signs) if sign == " "]
            self.assertEqual(sorted(data_places(size)), drawn)


class TestTheWholeFloor(unittest.TestCase):
    def test_each_place_is_just_one(self):
        for size in SIZES:
            places = [(row, column) for row, column, cell in mark_cells(size) + ruler_cells(size)]
            places += label_places(size) + data_places(size)
            self.assertEqual(sorted(places), [(row, column) for row in range(size) for column in range(size)])

    def test_told_kinds(self):
        for size in SIZES:
            for told, width in ((mark_cells(size), 3), (ruler_cells(size), 3), (label_places(size), 2),
                                (data_places(size), 2)):
                self.assertIs(type(told), list)
                self.assertEqual({type(entry) for entry in told}, {tuple})
                self.assertEqual({len(entry) for entry in told}, {width})
                self.assertEqual({type(number) for entry in told for number in entry}, {int})

    def test_a_changed_list_changes_no_later_answer(self):
        for ask in (mark_cells, ruler_cells, label_places, data_places):
            for size in SIZES:
                told = ask(size)
                before = list(told)
                told.reverse()
                told.pop()
                self.assertEqual(ask(size), before)


if __name__ == "__main__":
    unittest.main()
