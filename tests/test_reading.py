import unittest
from random import Random

from patchsquare.blocks import block_shapes, data_room
from patchsquare.errors import NoLabel, NoMarks, NoMend, NoSquare, NoText, SquareError
from patchsquare.floor import data_places, label_places, mark_cells, ruler_cells
from patchsquare.laying import laid_square
from patchsquare.reading import read_square
from patchsquare.turning import turned_square
from patchsquare.wrapping import wrapped_grains
from patchsquare.writing import written_at, written_square

ROOMS = {15: 16, 19: 37, 23: 64, 27: 96, 31: 133}
BLOCKS = {15: 1, 19: 1, 23: 2, 27: 2, 31: 3}
EVERY = [(size, level) for size in ROOMS for level in range(4)]
TEXT = "Ab1"


def copied(square):
    return [list(row) for row in square]


def checks_of(size, level):
    return block_shapes(size, level)[0][1]


# Which grains are each block's: by turns, and the one that is over at the size 31 is the last block's.
def grains_of_blocks(size):
    blocks = BLOCKS[size]
    even = ROOMS[size] // blocks * blocks
    grains = [list(range(block, even, blocks)) for block in range(blocks)]
    grains[-1].extend(range(even, ROOMS[size]))
    return grains


def turn_over(square, places):
    for row, column in places:
        square[row][column] = 1 - square[row][column]


def take_out(square, places):
    for row, column in places:
        square[row][column] = None


def spoil_places(chance, square, places, wrong, missing):
    chosen = chance.sample(places, wrong + missing)
    turn_over(square, chosen[:wrong])
    take_out(square, chosen[wrong:])


def spoil_marks(chance, square, wrong, missing):
    spoil_places(chance, square, [(row, column) for row, column, cell in mark_cells(len(square))], wrong, missing)


def spoil_label(chance, square, wrong, missing):
    spoil_places(chance, square, label_places(len(square)), wrong, missing)


# Each grain by any of its cells: wrong ones by some turned over, missing ones by some taken out and others turned over.
def spoil_block(chance, square, block, wrong, missing):
    places = data_places(len(square))
    chosen = chance.sample(grains_of_blocks(len(square))[block], wrong + missing)
    for number, grain in enumerate(chosen):
        cells = places[6 * grain:6 * grain + 6]
        if number < wrong:
            turn_over(square, chance.sample(cells, chance.randrange(1, 7)))
        else:
            some = chance.sample(cells, 6)
            cut = chance.randrange(1, 7)
            take_out(square, some[:cut])
            turn_over(square, [place for place in some[cut:] if chance.randrange(2)])


class ReadingTest(unittest.TestCase):
    def assert_refused(self, error, square):
        with self.assertRaises(SquareError) as taken:
            read_square(square)
        self.assertIs(type(taken.exception), error)
        return taken.exception


class TestReadSquare(ReadingTest):
    def test_each_size_level_mask_and_turn(self):
        for size, level in EVERY:
            for mask in range(8):
                square = written_at(TEXT, size, level, mask)
                for turn in range(8) if mask == (size + level) % 8 else (mask,):
                    with self.subTest(size=size, level=level, mask=mask, turn=turn):
                        expected = (TEXT, size, level, mask, turn, 0, (0, 0), [(0, 0)] * BLOCKS[size])
                        self.assertEqual(read_square(turned_square(square, turn)), expected)

    def test_written_squares_of_many_texts(self):
        for text in ("", "7", "HELLO, WORLD: 2026", "a" * 30, "Room 12, LEVEL 3 (second)", "~!@#$^&*()", "0" * 60):
            for level in range(4):
                told = read_square(written_square(text, level))
                self.assertEqual((told[0], told[2], told[4]), (text, level, 0))

    def test_the_told_kinds(self):
        chance = Random(1)
        for size, level in EVERY:
            square = written_at("", size, level, 1)
            spoil_marks(chance, square, 1, 1)
            told = read_square(square)
            self.assertIs(type(told), tuple)
            self.assertEqual([type(part) for part in told], [str, int, int, int, int, int, tuple, list])
            self.assertEqual([type(number) for number in told[6]], [int, int])
            self.assertEqual({type(pair) for pair in told[7]}, {tuple})
            self.assertEqual({type(number) for pair in told[7] for number in pair}, {int})

    def test_the_square_stays_and_what_is_told_is_new(self):
        chance = Random(2)
        for size, level in EVERY:
            for turn in range(8):
                square = written_at(TEXT, size, level, turn)
                spoil_marks(chance, square, 2, 2)
                spoil_label(chance, square, 1, 1)
                spoil_block(chance, square, 0, 1, 1)
                square = turned_square(square, turn)
                before = copied(square)
                told = read_square(square)
                self.assertEqual(square, before)
                blocks = list(told[7])
                told[7].append((9, 9))
                self.assertEqual(square, before)
                self.assertEqual(read_square(square)[7], blocks)

    def test_a_refused_square_stays(self):
        chance = Random(3)
        good = written_at(TEXT, 23, 1, 2)
        for spoil in (lambda square: square.pop(), lambda square: spoil_marks(chance, square, 9, 0),
                      lambda square: spoil_label(chance, square, 0, 8),
                      lambda square: spoil_block(chance, square, 1, 0, 11)):
            square = copied(good)
            spoil(square)
            before = copied(square)
            self.assert_refused_any(square)
            self.assertEqual(square, before)

    def assert_refused_any(self, square):
        with self.assertRaises(SquareError):
            read_square(square)


class TestNoSquare(ReadingTest):
    def test_no_rows(self):
        self.assert_refused(NoSquare, [])

    def test_rows_without_cells(self):
        self.assert_refused(NoSquare, [[]])
        for size in ROOMS:
            self.assert_refused(NoSquare, [[] for _ in range(size)])

    def test_other_counts_of_rows(self):
        for count in range(1, 40):
            if count not in ROOMS:
                self.assert_refused(NoSquare, [[0] * count for _ in range(count)])

    def test_a_row_fewer_or_more(self):
        for size in ROOMS:
            square = written_at(TEXT, size, 0, 0)
            self.assert_refused(NoSquare, square[1:])
            self.assert_refused(NoSquare, square[:-1])
            self.assert_refused(NoSquare, square + [[0] * size])

    def test_one_row_longer_or_shorter(self):
        for size in ROOMS:
            for row in (0, 1, size // 2, size - 1):
                for change in (lambda cells: cells + [0], lambda cells: cells[:-1], lambda cells: [],
                               lambda cells: cells + [None] * 4):
                    square = written_at(TEXT, size, 0, 0)
                    square[row] = change(square[row])
                    self.assert_refused(NoSquare, square)

    def test_all_rows_longer_or_shorter(self):
        for size in ROOMS:
            square = written_at(TEXT, size, 0, 0)
            self.assert_refused(NoSquare, [row + [0] for row in square])
            self.assert_refused(NoSquare, [row + [0] * 4 for row in square])
            self.assert_refused(NoSquare, [row[:-1] for row in square])
            self.assert_refused(NoSquare, [row[:-4] for row in square])

    def test_it_goes_ahead_of_the_marks(self):
        for size in ROOMS:
            for rows in ([[None] * size] * (size - 1), [[None] * (size + 1)] * size,
                         [[None] * size] * (size - 1) + [[None]]):
                self.assert_refused(NoSquare, [list(row) for row in rows])


class TestTheOrderOfRefusals(ReadingTest):
    # Each part, spoilt one step beyond what is let.
    def beyond(self, chance, square, parts, level):
        checks = checks_of(len(square), level)
        if "marks" in parts:
            spoil_marks(chance, square, 5, 4)
        if "label" in parts:
            spoil_label(chance, square, 3, 2)
        for block in range(BLOCKS[len(square)]):
            if block in parts:
                spoil_block(chance, square, block, checks // 2, 1)
        return square

    # A square whose data are no text, as they have no end.
    def square_without_text(self, size, level, mask):
        return laid_square(wrapped_grains([63] * data_room(size, level), size, level), size, level, mask)

    def test_one_part_beyond(self):
        chance = Random(4)
        for size, level in EVERY:
            for turn in range(8):
                good = written_at(TEXT, size, level, turn)
                for part, error in (("marks", NoMarks), ("label", NoLabel), (0, NoMend)):
                    square = self.beyond(chance, copied(good), [part], level)
                    self.assert_refused(error, turned_square(square, turn))
                self.assert_refused(NoText, turned_square(self.square_without_text(size, level, turn), turn))

    def test_several_parts_beyond(self):
        chance = Random(5)
        for size, level in EVERY:
            for text in (True, False):
                good = written_at(TEXT, size, level, 6) if text else self.square_without_text(size, level, 6)
                for parts, error in ((["marks", "label", 0], NoMarks), (["marks", 0], NoMarks),
                                     (["marks", "label"], NoMarks), (["label", 0], NoLabel), (["marks"], NoMarks),
                                     (["label"], NoLabel), ([0], NoMend)):
                    with self.subTest(size=size, level=level, parts=parts, text=text):
                        self.assert_refused(error, self.beyond(chance, copied(good), parts, level))

    def test_the_first_block_beyond_is_told(self):
        chance = Random(6)
        for size, level in EVERY:
            blocks = BLOCKS[size]
            for parts in [[block] for block in range(blocks)] + [list(range(start, blocks)) for start in range(blocks)]:
                square = self.beyond(chance, written_at(TEXT, size, level, 4), parts, level)
                refusal = self.assert_refused(NoMend, square)
                self.assertEqual(refusal.block, parts[0])
                self.assertIs(type(refusal.block), int)

    def test_data_that_are_no_text(self):
        for size, level in EVERY:
            room = data_room(size, level)
            # No end; a filling that begins with 21; noughts in the place of the filling; a text in another cut.
            rows = [[63] * room, [0] + [21, 42] * room, [0] * room, [16, 7, 0, 42, 21, 0] + [42] * room,
                    [0b110000, 0b000101, 0b101000] + [42, 21] * room]
            for data in rows:
                grains = wrapped_grains(data[:room], size, level)
                self.assert_refused(NoText, laid_square(grains, size, level, 0))

    def test_squares_without_anything(self):
        for size in ROOMS:
            for cell in (0, 1, None):
                self.assert_refused(NoMarks, [[cell] * size for _ in range(size)])


class TestNotLookedAt(ReadingTest):
    def test_rulers_dark_cell_and_the_data_places_that_are_left(self):
        chance = Random(7)
        for size, level in EVERY:
            places = [(row, column) for row, column, cell in ruler_cells(size)]
            places += data_places(size)[6 * ROOMS[size]:]
            for cells in ((0,), (1,), (None,), (0, 1, None)):
                turn = chance.randrange(8)
                square = written_at(TEXT, size, level, turn)
                for row, column in places:
                    square[row][column] = chance.choice(cells)
                expected = (TEXT, size, level, turn, turn, 0, (0, 0), [(0, 0)] * BLOCKS[size])
                self.assertEqual(read_square(turned_square(square, turn)), expected)

    def test_each_of_the_other_cells_is_looked_at(self):
        square = written_at(TEXT, 15, 1, 3)
        free = {(row, column) for row, column, cell in ruler_cells(15)} | set(data_places(15)[96:])
        good = read_square(square)
        for row in range(15):
            for column in range(15):
                for cell in (None, 1 - square[row][column]):
                    changed = copied(square)
                    changed[row][column] = cell
                    self.assertEqual(read_square(changed) == good, (row, column) in free)


class TestSpoiltSquares(ReadingTest):
    # Spoils every part as asked, turns the square, and asks for just these counts.
    def assert_read(self, chance, size, level, marks, label, blocks):
        mask, turn = chance.randrange(8), chance.randrange(8)
        square = written_at(TEXT, size, level, mask)
        spoil_marks(chance, square, *marks)
        spoil_label(chance, square, *label)
        for block, pair in enumerate(blocks):
            spoil_block(chance, square, block, *pair)
        expected = (TEXT, size, level, mask, turn, sum(marks), label, blocks)
        self.assertEqual(read_square(turned_square(square, turn)), expected)

    def test_up_to_the_bounds_in_every_part(self):
        chance = Random(8)
        for size, level in EVERY:
            checks = checks_of(size, level)
            for marks, label in (((8, 0), (3, 1)), ((0, 8), (0, 7)), ((3, 5), (2, 3)), ((0, 0), (1, 5))):
                for wrong in {0, 1, checks // 2}:
                    with self.subTest(size=size, level=level, marks=marks, label=label, wrong=wrong):
                        pair = (wrong, checks - 2 * wrong)
                        self.assert_read(chance, size, level, marks, label, [pair] * BLOCKS[size])

    def test_blocks_that_are_spoilt_otherwise(self):
        chance = Random(9)
        for size, level in EVERY:
            checks = checks_of(size, level)
            for _ in range(4):
                blocks = []
                for _ in range(BLOCKS[size]):
                    wrong = chance.randrange(checks // 2 + 1)
                    blocks.append((wrong, chance.randrange(checks - 2 * wrong + 1)))
                self.assert_read(chance, size, level, (chance.randrange(5), chance.randrange(4)), (1, 2), blocks)

    def test_each_count_of_marks(self):
        chance = Random(10)
        for count in range(9):
            for missing in range(count + 1):
                self.assert_read(chance, 15, 0, (count - missing, missing), (0, 0), [(0, 0)])

    def test_each_pair_of_the_label(self):
        chance = Random(11)
        for wrong in range(4):
            for missing in range(8 - 2 * wrong):
                self.assert_read(chance, 19, 2, (0, 0), (wrong, missing), [(0, 0)])

    def test_one_step_beyond_in_one_part(self):
        chance = Random(12)
        for size, level in EVERY:
            checks = checks_of(size, level)
            for turn in range(0, 8, 3):
                for marks in ((9, 0), (0, 9), (4, 5)):
                    square = written_at(TEXT, size, level, 2)
                    spoil_marks(chance, square, *marks)
                    self.assert_refused(NoMarks, turned_square(square, turn))
                for label in ((4, 0), (0, 8), (2, 4)):
                    square = written_at(TEXT, size, level, 2)
                    spoil_label(chance, square, *label)
                    self.assert_refused(NoLabel, turned_square(square, turn))
                for pair in ((checks // 2, 1), (0, checks + 1)):
                    square = written_at(TEXT, size, level, 2)
                    spoil_block(chance, square, BLOCKS[size] - 1, *pair)
                    refusal = self.assert_refused(NoMend, turned_square(square, turn))
                    self.assertEqual(refusal.block, BLOCKS[size] - 1)

    # Whatever is told of a square, the told text makes a square that is near enough to it, and has the told counts.
    def assert_near(self, square):
        try:
            text, size, level, mask, turn, marks, label, blocks = read_square(square)
        except SquareError:
            return False
        made = turned_square(written_at(text, size, level, mask), turn)
        places = {place: [] for place in ("marks", "label")}
        names = {(row, column): "marks" for row, column, cell in mark_cells(size)}
        names.update((place, "label") for place in label_places(size))
        numbers = [[names.get((row, column)) for column in range(size)] for row in range(size)]
        for place, grain in zip(data_places(size), [number for number in range(ROOMS[size]) for _ in range(6)]):
            numbers[place[0]][place[1]] = grain
        for own, other, names_row in zip(square, made, turned_square(numbers, turn)):
            for cell, right, name in zip(own, other, names_row):
                if name is not None and cell != right:
                    places.setdefault(name, []).append(cell is None)
        self.assertEqual(len(places["marks"]), marks)
        self.assertLessEqual(marks, 8)
        self.assertEqual((places["label"].count(False), places["label"].count(True)), label)
        self.assertLessEqual(2 * label[0] + label[1], 7)
        for block, grains in enumerate(grains_of_blocks(size)):
            missing = sum(any(places.get(grain, [])) for grain in grains)
            wrong = sum(grain in places for grain in grains) - missing
            self.assertEqual((wrong, missing), blocks[block])
            self.assertLessEqual(2 * wrong + missing, checks_of(size, level))
        return True

    def test_what_is_told_is_near_enough(self):
        chance = Random(13)
        told = 0
        for _ in range(250):
            size, level = chance.choice(EVERY)
            square = written_at(TEXT, size, level, chance.randrange(8))
            cells = [(row, column) for row in range(size) for column in range(size)]
            spoil_places(chance, square, cells, chance.randrange(size // 2), chance.randrange(size // 2))
            told += self.assert_near(turned_square(square, chance.randrange(8)))
        self.assertGreater(told, 60)
        self.assertLess(told, 250)

    def test_squares_by_chance(self):
        chance = Random(14)
        for size in ROOMS:
            for _ in range(5):
                self.assertFalse(self.assert_near([[chance.choice((0, 1, None)) for _ in range(size)]
                                                   for _ in range(size)]))


if __name__ == "__main__":
    unittest.main()
