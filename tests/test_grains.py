import unittest
from random import Random

from patchsquare.cutting import cut_text
from patchsquare.errors import NoSign, NoText, TooLong
from patchsquare.grains import read_grains, text_grains
from patchsquare.pieces import piece_bits

CAPITALS = " ABCDEFGHIJKLMNOPQRSTUVWXYZ.,-:/"
ANY = "".join(chr(code) for code in range(ord(" "), ord("~") + 1) if code != ord("%"))

# Texts of each kind and of several; their grains fill up with 0 to 5 bits.
TEXTS = ["", "7", "12", "123", "1234", "12345", "0000000", "K", " ", "KQ", "A/B", "WORD", "QUITE: A ROW.", "a", "ab",
         "a~b", "quite", "a123", "HELLO, WORLD: 2026", "abc1234567KKKKKK", "5" * 64, "5" * 65, "Q" * 65, "q" * 65,
         "7" * 200, "K" * 150, "z" * 100, ANY, "Room 12, LEVEL 3: 2026-11-16 (second)"]


# The bits of the pieces, of the end and the noughts behind it, as a text of binary figures.
def binary(pieces):
    word = "".join(str(bit) for piece in pieces for bit in piece_bits(piece)) + "00"
    return word + "0" * (-len(word) % 6)


def grains_of(word):
    return [int(word[start:start + 6], 2) for start in range(0, len(word), 6)]


def own_grains(text):
    return grains_of(binary(cut_text(text)))


def expected_grains(text, room):
    grains = own_grains(text)
    return (grains + [42, 21] * room)[:room] if len(grains) <= room else None


class TestTextGrains(unittest.TestCase):
    def assert_too_long(self, text, room):
        with self.assertRaises(TooLong):
            text_grains(text, room)

    def test_written_out(self):
        self.assertEqual(text_grains("7", 3), [0b010000, 0b000111, 0b000000])
        self.assertEqual(text_grains("K", 3), [0b100000, 0b000101, 0b100000])
        self.assertEqual(text_grains("a", 3), [0b110000, 0b001000, 0b000000])
        # 24 bits with the end: no noughts are lacking.
        self.assertEqual(text_grains("1234", 4), [0b010000, 0b110001, 0b111011, 0b010000])
        # A piece of 31 bits with the end: five are lacking.
        self.assertEqual(text_grains("a~b", 6), [0b110000, 0b101000, 0b000101, 0b110110, 0b000010, 0b000000])
        # Two pieces.
        self.assertEqual(text_grains("a123", 6), [0b110000, 0b001000, 0b000010, 0b000100, 0b001111, 0b011000])

    def test_the_filling_begins_with_forty_two(self):
        self.assertEqual(text_grains("7", 4), [16, 7, 0, 42])
        self.assertEqual(text_grains("7", 5), [16, 7, 0, 42, 21])
        self.assertEqual(text_grains("7", 8), [16, 7, 0, 42, 21, 42, 21, 42])
        self.assertEqual(text_grains("1234", 7), [16, 49, 59, 16, 42, 21, 42])

    def test_the_empty_text(self):
        self.assertEqual(text_grains("", 1), [0])
        self.assertEqual(text_grains("", 2), [0, 42])
        self.assertEqual(text_grains("", 4), [0, 42, 21, 42])
        self.assertEqual(text_grains("", 133), [0] + [42, 21] * 66)
        self.assert_too_long("", 0)

    def test_just_enough_room(self):
        for text in TEXTS:
            with self.subTest(text=text):
                grains = own_grains(text)
                self.assertEqual(text_grains(text, len(grains)), grains)

    def test_more_room(self):
        for text in TEXTS:
            least = len(own_grains(text))
            for room in (least + 1, least + 2, least + 3, least + 10, 132, 133):
                with self.subTest(text=text, room=room):
                    self.assertEqual(text_grains(text, room), expected_grains(text, room))

    def test_every_room_there_is(self):
        for text in ("", "7", "K" * 20, "Mixed 123456 WORDS", "7" * 220):
            for room in range(134):
                with self.subTest(text=text, room=room):
                    expected = expected_grains(text, room)
                    if expected is None:
                        self.assert_too_long(text, room)
                    else:
                        self.assertEqual(text_grains(text, room), expected)

    def test_too_long_by_one_grain(self):
        for text in TEXTS:
            with self.subTest(text=text):
                self.assert_too_long(text, len(own_grains(text)) - 1)

    def test_no_room_at_all(self):
        for text in TEXTS:
            self.assert_too_long(text, 0)

    def test_the_longest_texts(self):
        self.assert_too_long("a" * 300, 133)
        self.assert_too_long("A" * 300, 133)
        self.assert_too_long("5" * 300, 133)
        # 3 * 72 figures in four pieces: 4 * 8 + 72 * 10 + 2 bits.
        self.assertEqual(len(own_grains("5" * 216)), 126)
        self.assertEqual(text_grains("5" * 216, 133)[126:], [42, 21, 42, 21, 42, 21, 42])

    def test_a_strange_sign_goes_ahead_of_the_length(self):
        for room in (0, 1, 2, 10, 133):
            for text, place in (("\n", 0), ("ab\tc", 2), ("7" * 299 + "\n", 299), ("Q" * 150 + "\t\n", 150)):
                with self.subTest(text=text, room=room):
                    with self.assertRaises(NoSign) as taken:
                        text_grains(text, room)
                    self.assertEqual(taken.exception.place, place)

    def test_told_is_a_new_list_of_whole_numbers(self):
        for text, room in (("", 1), ("7", 3), ("a123", 20)):
            told = text_grains(text, room)
            self.assertIs(type(told), list)
            self.assertEqual({type(grain) for grain in told}, {int})
            before = list(told)
            told.append(5)
            told[0] = 9
            self.assertEqual(text_grains(text, room), before)


class TestReadGrains(unittest.TestCase):
    def assert_refused(self, grains):
        with self.assertRaises(NoText):
            read_grains(grains)

    # Whatever is told as a text must be just what this text makes in as much room.
    def text_or_none(self, grains):
        try:
            text = read_grains(grains)
        except NoText:
            return None
        self.assertEqual(expected_grains(text, len(grains)), grains)
        return text

    def test_each_text_is_read_back(self):
        for text in TEXTS:
            least = len(own_grains(text))
            for room in (least, least + 1, least + 2, least + 7, 132, 133):
                with self.subTest(text=text, room=room):
                    self.assertEqual(read_grains(expected_grains(text, room)), text)

    def test_every_sign_is_read_back(self):
        for sign in ANY:
            for text in (sign, sign * 2, "a" + sign, sign + "7777"):
                self.assertEqual(read_grains(expected_grains(text, 12)), text)

    def test_no_grains_at_all(self):
        self.assert_refused([])

    def test_rows_of_one_and_two_grains(self):
        self.assertEqual([first for first in range(64) if self.text_or_none([first]) is not None], [0])
        told = [(first, second) for first in range(64) for second in range(64)
                if self.text_or_none([first, second]) is not None]
        self.assertEqual(told, [(0, 42)])

    def test_rows_of_three_grains(self):
        # The empty text, one sign of 94, or two figures.
        texts = [""] + list(ANY) + [str(number).zfill(2) for number in range(100)]
        rows = {tuple(expected_grains(text, 3)): text for text in texts}
        self.assertEqual(len(rows), 195)
        told = {}
        for first in range(64):
            for rest in range(64 * 64):
                row = (first, rest // 64, rest % 64)
                try:
                    told[row] = read_grains(list(row))
                except NoText:
                    pass
        self.assertEqual(told, rows)

    def test_a_grain_changed_at_any_place(self):
        for text in TEXTS:
            least = len(own_grains(text))
            row = expected_grains(text, least + 3)
            for place in range(len(row)):
                for change in (1, 2, 4, 8, 16, 32, 63) if len(row) < 30 else (1 << place % 6,):
                    changed = list(row)
                    changed[place] ^= change
                    self.assertNotEqual(self.text_or_none(changed), text)
                    if place >= least:
                        self.assert_refused(changed)

    def test_the_filling_changed(self):
        for text in ("", "7", "abc"):
            least = len(own_grains(text))
            row = expected_grains(text, least + 4)
            for place in range(least, len(row)):
                for grain in range(64):
                    if grain != row[place]:
                        self.assert_refused(row[:place] + [grain] + row[place + 1:])
            self.assert_refused(row[:least] + [21, 42, 21, 42])
            self.assert_refused(row[:least] + [0, 0, 0, 0])
        # The filling does not depend on the place in the row: it begins with 42 behind the text.
        self.assert_refused([0, 21])
        self.assert_refused([16, 7, 0, 21, 42])

    def test_the_last_grain_left_out(self):
        for text in TEXTS:
            self.assert_refused(own_grains(text)[:-1])

    def test_one_grain_more(self):
        for text in ("", "7", "1234", "a~b", "WORD 55"):
            least = len(own_grains(text))
            for room in (least, least + 1, least + 2):
                row = expected_grains(text, room)
                right = expected_grains(text, room + 1)
                for grain in range(64):
                    if row + [grain] == right:
                        self.assertEqual(read_grains(row + [grain]), text)
                    else:
                        self.assert_refused(row + [grain])

    def test_another_cut_of_the_same_text(self):
        cuts = [[(3, "7")], [(2, "K"), (2, "Q")], [(1, "1"), (1, "2")], [(3, "WORD")], [(3, "a123")],
                [(2, "A"), (3, "b")], [(3, "ab"), (3, "c")], [(1, "5"), (1, "5" * 64)], [(1, "5" * 63), (1, "55")],
                [(2, "Q" * 64), (2, "Q")], [(3, "q" * 2), (3, "q" * 63)], [(3, "a"), (2, "KKKK")],
                [(3, "a" * 57 + "KKKK"), (2, "KKKK")]]
        for cut in cuts:
            text = "".join(signs for kind, signs in cut)
            self.assertNotEqual(cut_text(text), cut)
            row = grains_of(binary(cut))
            for filling in ([], [42], [42, 21]):
                with self.subTest(cut=cut, filling=filling):
                    self.assert_refused(row + filling)

    def test_a_cut_with_as_many_grains_as_the_right_one(self):
        self.assertEqual(len(grains_of(binary([(3, "a"), (2, "KKKK")]))), len(own_grains("aKKKK")))
        self.assert_refused(grains_of(binary([(3, "a"), (2, "KKKK")])))
        self.assertEqual(read_grains(own_grains("aKKKK")), "aKKKK")

    def test_a_bit_one_behind_the_end(self):
        for text in ("", "7", "K", "a", "123", "KQ", "a~b"):
            row = own_grains(text)
            bits = "".join(str(bit) for piece in cut_text(text) for bit in piece_bits(piece))
            spare = len(row) * 6 - len(bits) - 2
            self.assertGreater(spare, 0)
            for noise in range(1, 2 ** spare):
                for filling in ([], [42], [42, 21]):
                    self.assert_refused(row[:-1] + [row[-1] | noise] + filling)

    def test_rows_without_an_end(self):
        for row in ([16], [16, 7], [63] * 133, [21] * 133, [42, 21, 42, 21], [21, 42], [48, 8]):
            self.assert_refused(row)

    def test_numbers_that_no_sign_has(self):
        self.assert_refused(grains_of("01" + "000000" + "1010" + "00" + "0000"))
        self.assert_refused(grains_of("11" + "000000" + "1011110" + "00" + "0"))

    def test_rows_by_chance(self):
        chance = Random(5)
        for _ in range(3000):
            row = [chance.choice((0, 16, 32, 48, 42, 21, chance.randrange(64))) for _ in range(chance.randrange(12))]
            self.text_or_none(row)

    def test_the_grains_handed_in_stay(self):
        for row in ([0], [16, 7, 0, 42], [16, 7, 0, 21], []):
            before = list(row)
            self.text_or_none(row)
            self.assertEqual(row, before)

    def test_a_text_is_told(self):
        self.assertIs(type(read_grains([0])), str)
        self.assertIs(type(read_grains([16, 7, 0])), str)


if __name__ == "__main__":
    unittest.main()
