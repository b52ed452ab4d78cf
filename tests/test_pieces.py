import unittest

from patchsquare.errors import NoText
from patchsquare.pieces import piece_bits, read_pieces

FIGURES = "0123456789"
CAPITALS = " ABCDEFGHIJKLMNOPQRSTUVWXYZ.,-:/"
ANY = "".join(chr(code) for code in range(ord(" "), ord("~") + 1) if code != ord("%"))
SIGNS = {1: FIGURES, 2: CAPITALS, 3: ANY}
COUNTS = (1, 2, 3, 4, 5, 6, 7, 31, 32, 33, 62, 63, 64)
END = [0, 0]


def bits(*words):
    return [int(sign) for word in words for sign in word.replace(" ", "")]


def written(number, count):
    return f"{number:0{count}b}"


# Another way to the bits of a piece, by texts of binary figures.
def expected_bits(kind, signs):
    words = [written(kind, 2), written(len(signs) - 1, 6)]
    if kind == 1:
        for start in range(0, len(signs), 3):
            figures = signs[start:start + 3]
            words.append(written(int(figures), {3: 10, 2: 7, 1: 4}[len(figures)]))
    else:
        words += [written(SIGNS[kind].index(sign), {2: 5, 3: 7}[kind]) for sign in signs]
    return bits(*words)


# For each kind and count: rows that begin with each of the kind's signs in turn.
def many_pieces():
    for kind, signs in SIGNS.items():
        round_and_round = signs * 9
        for count in COUNTS:
            for start in range(len(signs)):
                yield (kind, round_and_round[start:start + count])
            yield (kind, signs[0] * count)
            yield (kind, signs[-1] * count)


class TestPieceBits(unittest.TestCase):
    def test_figures_written_out(self):
        self.assertEqual(piece_bits((1, "0")), bits("01 000000 0000"))
        self.assertEqual(piece_bits((1, "9")), bits("01 000000 1001"))
        self.assertEqual(piece_bits((1, "07")), bits("01 000001 0000111"))
        self.assertEqual(piece_bits((1, "99")), bits("01 000001 1100011"))
        self.assertEqual(piece_bits((1, "000")), bits("01 000010 0000000000"))
        self.assertEqual(piece_bits((1, "999")), bits("01 000010 1111100111"))
        self.assertEqual(piece_bits((1, "1234")), bits("01 000011 0001111011 0100"))
        self.assertEqual(piece_bits((1, "12345")), bits("01 000100 0001111011 0101101"))

    def test_capitals_written_out(self):
        self.assertEqual(piece_bits((2, " ")), bits("10 000000 00000"))
        self.assertEqual(piece_bits((2, "AZ")), bits("10 000001 00001 11010"))
        self.assertEqual(piece_bits((2, ".,-:/")), bits("10 000100 11011 11100 11101 11110 11111"))

    def test_any_written_out(self):
        self.assertEqual(piece_bits((3, " ")), bits("11 000000 0000000"))
        self.assertEqual(piece_bits((3, "$&")), bits("11 000001 0000100 0000101"))
        self.assertEqual(piece_bits((3, "0Aa")), bits("11 000010 0001111 0100000 1000000"))
        self.assertEqual(piece_bits((3, "~")), bits("11 000000 1011101"))

    def test_sixty_four_signs(self):
        self.assertEqual(piece_bits((1, "9" * 64)), bits("01 111111", "1111100111" * 21, "1001"))
        self.assertEqual(piece_bits((2, "/" * 64)), bits("10 111111", "11111" * 64))
        self.assertEqual(piece_bits((3, "~" * 64)), bits("11 111111", "1011101" * 64))

    def test_every_sign_at_many_counts(self):
        for kind, signs in many_pieces():
            with self.subTest(kind=kind, signs=signs):
                self.assertEqual(piece_bits((kind, signs)), expected_bits(kind, signs))

    def test_told_bits_are_a_list_of_whole_numbers(self):
        for piece in ((1, "12345"), (2, "A/"), (3, "a~")):
            self.assertIs(type(piece_bits(piece)), list)
            self.assertEqual({type(bit) for bit in piece_bits(piece)}, {int})

    def test_a_changed_list_changes_no_later_answer(self):
        for piece in ((1, "12345"), (2, "A/"), (3, "a~")):
            told = piece_bits(piece)
            before = list(told)
            told.clear()
            self.assertEqual(piece_bits(piece), before)


class TestReadPieces(unittest.TestCase):
    def assert_refused(self, row):
        with self.assertRaises(NoText):
            read_pieces(row)

    def test_no_piece_at_all(self):
        self.assertEqual(read_pieces([0, 0]), ([], 2))
        self.assertEqual(read_pieces([0, 0, 1, 1, 0]), ([], 2))

    def test_written_out(self):
        row = bits("01 000011 0001111011 0100", "10 000001 00001 11010", "11 000000 1011101", "00", "1")
        self.assertEqual(read_pieces(row), ([(1, "1234"), (2, "AZ"), (3, "~")], 57))

    def test_figures_keep_their_noughts_ahead(self):
        for signs in ("0", "00", "000", "007", "0000", "00001", "05", "10005"):
            self.assertEqual(read_pieces(piece_bits((1, signs)) + END)[0], [(1, signs)])

    def test_each_piece_is_read_back(self):
        for kind, signs in many_pieces():
            with self.subTest(kind=kind, signs=signs):
                row = expected_bits(kind, signs) + END
                self.assertEqual(read_pieces(row), ([(kind, signs)], len(row)))

    def test_pieces_of_all_kinds_with_any_bits_behind(self):
        pieces = [(3, ANY[:64]), (1, "0123456789"), (1, "98"), (2, CAPITALS), (3, ANY[30:]), (2, "X"), (1, "7")]
        row = [bit for piece in pieces for bit in expected_bits(*piece)] + END
        for behind in ([], [0], [1], [0, 0], [1, 1], [0, 1] * 20, [1] * 100, [0] * 100):
            self.assertEqual(read_pieces(row + behind), (pieces, len(row)))

    def test_a_row_of_three_thousand_bits(self):
        pieces = [(2, "ABC.,-:/")] * 62
        row = [bit for piece in pieces for bit in expected_bits(*piece)] + END
        self.assertEqual(len(row), 62 * 48 + 2)
        self.assertEqual(read_pieces(row + [1] * (3000 - len(row))), (pieces, len(row)))
        short = [(1, "5")] * 249
        row = [bit for piece in short for bit in expected_bits(*piece)] + END
        self.assertEqual(read_pieces(row), (short, 2990))
        self.assert_refused(expected_bits(1, "5") * 250)

    def test_cut_off_at_any_place(self):
        pieces = [(1, "12345"), (1, "123"), (1, "1234"), (2, "Q./"), (3, "q~ "), (3, "z")]
        row = [bit for piece in pieces for bit in expected_bits(*piece)] + END
        for length in range(len(row)):
            with self.subTest(length=length):
                self.assert_refused(row[:length])
        self.assertEqual(read_pieces(row), (pieces, len(row)))

    def test_no_end_is_refused(self):
        self.assert_refused([])
        self.assert_refused([0])
        self.assert_refused([1])
        self.assert_refused([0, 1])
        self.assert_refused([1] * 8)

    def test_figures_up_to_their_greatest(self):
        for figures, count in ((1, 4), (2, 7), (3, 10)):
            for number in range(10 ** figures):
                row = bits("01", written(figures - 1, 6), written(number, count), "00")
                self.assertEqual(read_pieces(row), ([(1, str(number).zfill(figures))], len(row)))

    def test_figures_above_their_greatest(self):
        for figures, count in ((1, 4), (2, 7), (3, 10)):
            for number in range(10 ** figures, 2 ** count):
                self.assert_refused(bits("01", written(figures - 1, 6), written(number, count), "00"))

    def test_figures_above_their_greatest_behind_others(self):
        for figures, count, number in ((1, 4, 10), (2, 7, 100), (3, 10, 1000)):
            total = 3 + figures
            row = bits("01", written(total - 1, 6), written(999, 10), written(number, count), "00")
            self.assert_refused(row)
            self.assert_refused(expected_bits(2, "OK") + row)

    def test_any_sign_up_to_the_last_and_above(self):
        for number in range(128):
            row = bits("11 000000", written(number, 7), "00")
            if number <= 93:
                self.assertEqual(read_pieces(row), ([(3, ANY[number])], len(row)))
            else:
                self.assert_refused(row)

    def test_any_sign_above_the_last_behind_others(self):
        self.assert_refused(bits("11 000010", written(0, 7), written(93, 7), written(94, 7), "00"))
        self.assert_refused(bits("11 000010", written(0, 7), written(127, 7), written(93, 7), "00"))

    def test_every_capital(self):
        for number in range(32):
            row = bits("10 000000", written(number, 5), "00")
            self.assertEqual(read_pieces(row), ([(2, CAPITALS[number])], len(row)))

    def test_what_is_told_is_of_the_told_kinds(self):
        told = read_pieces(expected_bits(1, "12") + expected_bits(3, "a") + END)
        self.assertIs(type(told), tuple)
        self.assertIs(type(told[0]), list)
        self.assertIs(type(told[1]), int)
        for piece in told[0]:
            self.assertIs(type(piece), tuple)
            self.assertEqual([type(part) for part in piece], [int, str])

    def test_the_bits_handed_in_stay(self):
        row = expected_bits(1, "12") + END + [1, 0, 1]
        before = list(row)
        read_pieces(row)
        self.assertEqual(row, before)
        broken = before[:5]
        self.assert_refused(broken)
        self.assertEqual(broken, before[:5])

    def test_a_changed_list_changes_no_later_answer(self):
        for row in (END, expected_bits(1, "12") + END):
            told = read_pieces(row)[0]
            before = list(told)
            told.append((3, "x"))
            self.assertEqual(read_pieces(row)[0], before)


if __name__ == "__main__":
    unittest.main()
