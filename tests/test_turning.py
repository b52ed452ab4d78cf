import unittest
from random import Random

from patchsquare.errors import NoMarks
from patchsquare.floor import mark_cells
from patchsquare.laying import laid_square
from patchsquare.turning import found_turn, turned_back, turned_square

ROOMS = {15: 16, 19: 37, 23: 64, 27: 96, 31: 133}

# Where the cell (row, column) of a square comes to lie, by turn; far is size - 1.
PLACES = {
    0: lambda row, column, far: (row, column),
    1: lambda row, column, far: (column, far - row),
    2: lambda row, column, far: (far - row, far - column),
    3: lambda row, column, far: (far - column, row),
    4: lambda row, column, far: (row, far - column),
    5: lambda row, column, far: (far - column, far - row),
    6: lambda row, column, far: (far - row, column),
    7: lambda row, column, far: (column, row),
}


def expected_turned(square, turn):
    size = len(square)
    turned = [["lacking"] * size for _ in range(size)]
    for row in range(size):
        for column in range(size):
            to_row, to_column = PLACES[turn](row, column, size - 1)
            turned[to_row][to_column] = square[row][column]
    return turned


def by_chance(chance, size):
    return [[chance.choice((0, 1, 0, 1, None)) for _ in range(size)] for _ in range(size)]


def laid_by_chance(chance, size):
    return laid_square([chance.randrange(64) for _ in range(ROOMS[size])], size, chance.randrange(4),
                       chance.randrange(8))


# Spoils so many of the marks' cells, given as places, some by turning them over and some by making them missing.
def spoilt(square, places, missing_count):
    changed = [list(row) for row in square]
    for number, (row, column) in enumerate(places):
        changed[row][column] = None if number < missing_count else 1 - changed[row][column]
    return changed


def mark_places(size):
    return [(row, column) for row, column, cell in mark_cells(size)]


class TestTurnedSquare(unittest.TestCase):
    def test_written_out(self):
        # Each turn of a corner: the upper left and the upper right cells are dark, all others light.
        square = [[0] * 15 for _ in range(15)]
        square[0][0] = 1
        square[0][1] = 1
        dark = {turn: [(row, column) for row in range(15) for column in range(15)
                       if turned_square(square, turn)[row][column]] for turn in range(8)}
        self.assertEqual(dark, {0: [(0, 0), (0, 1)], 1: [(0, 14), (1, 14)], 2: [(14, 13), (14, 14)],
                                3: [(13, 0), (14, 0)], 4: [(0, 13), (0, 14)], 5: [(13, 14), (14, 14)],
                                6: [(14, 0), (14, 1)], 7: [(0, 0), (1, 0)]})

    def test_each_turn_of_each_size_with_missing_cells(self):
        chance = Random(1)
        for size in ROOMS:
            for turn in range(8):
                with self.subTest(size=size, turn=turn):
                    square = by_chance(chance, size)
                    self.assertEqual(turned_square(square, turn), expected_turned(square, turn))

    def test_the_turns_of_a_square_are_all_unlike(self):
        square = laid_by_chance(Random(2), 15)
        turned = [turned_square(square, turn) for turn in range(8)]
        for turn in range(8):
            self.assertEqual(turned.index(turned[turn]), turn)


class TestTurnedBack(unittest.TestCase):
    def test_turned_back_again_it_is_the_square(self):
        chance = Random(3)
        for size in ROOMS:
            for turn in range(8):
                with self.subTest(size=size, turn=turn):
                    square = by_chance(chance, size)
                    self.assertEqual(turned_back(expected_turned(square, turn), turn), square)
                    self.assertEqual(turned_back(turned_square(square, turn), turn), square)
                    self.assertEqual(turned_square(turned_back(square, turn), turn), square)


class TestHandedAndTold(unittest.TestCase):
    def test_what_is_handed_in_stays_and_what_is_told_is_new_row_by_row(self):
        chance = Random(4)
        for ask in (turned_square, turned_back):
            for turn in range(8):
                square = by_chance(chance, 15)
                before = [list(row) for row in square]
                told = ask(square, turn)
                self.assertEqual(square, before)
                self.assertIs(type(told), list)
                self.assertEqual({type(row) for row in told}, {list})
                self.assertEqual({type(cell) for row in told for cell in row}, {int, type(None)})
                lists = [square, told] + square + told
                self.assertEqual(len({id(one) for one in lists}), len(lists))
                again = [list(row) for row in told]
                for row in told:
                    row.reverse()
                    row.append(5)
                self.assertEqual(square, before)
                self.assertEqual(ask(square, turn), again)

    def test_rows_that_are_one_list_are_told_as_several(self):
        row = [0, 1, None] * 5
        for ask in (turned_square, turned_back):
            for turn in range(8):
                told = ask([row] * 15, turn)
                self.assertEqual(len({id(one) for one in told}), 15)


class TestFoundTurn(unittest.TestCase):
    def assert_refused(self, square):
        with self.assertRaises(NoMarks):
            found_turn(square)

    def test_the_marks_turns_differ_at_eighteen_cells_or_more(self):
        blank = [[None] * 15 for _ in range(15)]
        for row, column, cell in mark_cells(15):
            blank[row][column] = cell
        turned = [expected_turned(blank, turn) for turn in range(8)]
        apart = [sum(one != other for first, second in zip(turned[a], turned[b]) for one, other in zip(first, second))
                 for a in range(8) for b in range(a)]
        self.assertEqual(min(apart), 18)

    def test_each_turn_of_each_size(self):
        chance = Random(5)
        for size in ROOMS:
            for turn in range(8):
                square = laid_by_chance(chance, size)
                self.assertEqual(found_turn(expected_turned(square, turn)), (turn, 0))

    def test_up_to_eight_cells_wrong_or_missing(self):
        chance = Random(6)
        for size in ROOMS:
            for turn in range(8):
                for count in range(1, 9):
                    places = chance.sample(mark_places(size), count)
                    for missing_count in {0, chance.randrange(count + 1), count}:
                        square = spoilt(laid_by_chance(chance, size), places, missing_count)
                        self.assertEqual(found_turn(expected_turned(square, turn)), (turn, count))

    def test_nine_cells_wrong_or_missing(self):
        chance = Random(7)
        for size in ROOMS:
            for turn in range(8):
                for missing_count in (0, 4, 9):
                    places = chance.sample(mark_places(size), 9)
                    self.assert_refused(expected_turned(spoilt(laid_by_chance(chance, size), places, missing_count),
                                                        turn))

    def test_the_cells_by_which_the_near_turns_are_told_apart(self):
        # With all of these cells turned over the square is the other turn's; it is so with all but 8 of them, too.
        marks = {(row, column): cell for row, column, cell in mark_cells(15)}
        for other in range(1, 8):
            blank = [[None] * 15 for _ in range(15)]
            for (row, column), cell in marks.items():
                blank[row][column] = cell
            turned = expected_turned(blank, other)
            apart = [place for place in mark_places(15) if turned[place[0]][place[1]] != marks[place]]
            self.assertGreaterEqual(len(apart), 18)
            self.assertEqual(found_turn(spoilt(blank, apart[:8], 0)), (0, 8))
            self.assert_refused(spoilt(blank, apart[:9], 0))
            self.assertEqual(found_turn(spoilt(blank, apart[8:], 0)), (other, 8))
            self.assert_refused(spoilt(blank, apart[9:], 0))

    def test_each_of_the_marks_cells_counts(self):
        for size in (15, 31):
            square = laid_by_chance(Random(8), size)
            for place in mark_places(size):
                self.assertEqual(found_turn(spoilt(square, [place], 0)), (0, 1))
                self.assertEqual(found_turn(spoilt(square, [place], 1)), (0, 1))

    def test_no_other_cell_counts(self):
        chance = Random(9)
        for size in ROOMS:
            square = laid_by_chance(chance, size)
            places = set(mark_places(size))
            for row in range(size):
                for column in range(size):
                    if (row, column) not in places:
                        square[row][column] = chance.choice((0, 1, None))
            for turn in range(8):
                self.assertEqual(found_turn(expected_turned(square, turn)), (turn, 0))

    def test_squares_without_marks(self):
        for size in ROOMS:
            for cell in (0, 1, None):
                self.assert_refused([[cell] * size for _ in range(size)])
            self.assert_refused([[(row + column) % 2 for column in range(size)] for row in range(size)])

    def test_the_square_stays_and_whole_numbers_are_told(self):
        for turn in range(8):
            square = expected_turned(spoilt(laid_by_chance(Random(10), 19), [(0, 0), (18, 18)], 1), turn)
            before = [list(row) for row in square]
            told = found_turn(square)
            self.assertEqual(square, before)
            self.assertIs(type(told), tuple)
            self.assertEqual([type(number) for number in told], [int, int])
            self.assertEqual(told, (turn, 2))


if __name__ == "__main__":
    unittest.main()
