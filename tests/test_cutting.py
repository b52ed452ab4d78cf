import itertools
import unittest
from random import Random

from patchsquare.cutting import cut_text
from patchsquare.errors import NoSign
from patchsquare.pieces import piece_bits, read_pieces

FIGURES = "0123456789"
CAPITALS = " ABCDEFGHIJKLMNOPQRSTUVWXYZ.,-:/"
ANY = "".join(chr(code) for code in range(ord(" "), ord("~") + 1) if code != ord("%"))
SIGNS = {1: FIGURES, 2: CAPITALS, 3: ANY}
MOST = 64


def cost_of(kind, count):
    if kind == 1:
        return 8 + count // 3 * 10 + (0, 4, 7)[count % 3]
    return 8 + count * {2: 5, 3: 7}[kind]


def fits(kind, signs):
    return all(sign in SIGNS[kind] for sign in signs)


# Every cut of the text there is, as lists of pieces.
def all_cuts(text):
    if not text:
        yield []
    for count in range(1, min(MOST, len(text)) + 1):
        for kind in SIGNS:
            if fits(kind, text[:count]):
                for rest in all_cuts(text[count:]):
                    yield [(kind, text[:count])] + rest


def rank_of(cut):
    shape = [(kind, len(signs)) for kind, signs in cut]
    return (sum(cost_of(kind, count) for kind, count in shape), len(cut), shape)


def best_by_trying(text):
    return min(all_cuts(text), key=rank_of)


# For long texts: of each text's end the least whole rank, all its pieces written out in it.
def best_by_ends(text):
    best = {len(text): (0, 0, ())}
    for start in reversed(range(len(text))):
        ranks = []
        for kind in SIGNS:
            for count in range(1, min(MOST, len(text) - start) + 1):
                if text[start + count - 1] not in SIGNS[kind]:
                    break
                bits, pieces, shape = best[start + count]
                ranks.append((bits + cost_of(kind, count), pieces + 1, ((kind, count),) + shape))
        best[start] = min(ranks)
    cut = []
    start = 0
    for kind, count in best[0][2]:
        cut.append((kind, text[start:start + count]))
        start += count
    return cut


# A text of runs, each of one kind's signs.
def text_of_runs(chance, length):
    text = ""
    while len(text) < length:
        signs = chance.choice([FIGURES, CAPITALS, ANY, CAPITALS[1:27], "abcdefgh", FIGURES + CAPITALS])
        text += "".join(chance.choice(signs) for _ in range(chance.choice((1, 2, 3, 4, 5, 6, 9, 20, 70))))
    return text[:length]


class TestCutText(unittest.TestCase):
    def test_the_empty_text_has_no_piece(self):
        self.assertEqual(cut_text(""), [])

    def test_written_out(self):
        self.assertEqual(cut_text("7"), [(1, "7")])
        self.assertEqual(cut_text("K"), [(2, "K")])
        self.assertEqual(cut_text(" "), [(2, " ")])
        self.assertEqual(cut_text("a"), [(3, "a")])
        self.assertEqual(cut_text("a12"), [(3, "a12")])
        self.assertEqual(cut_text("a123"), [(3, "a"), (1, "123")])
        self.assertEqual(cut_text("HELLO, WORLD: 2026"), [(2, "HELLO, WORLD: "), (1, "2026")])

    def test_fewer_pieces_go_ahead_of_a_lesser_kind(self):
        # Four capitals cost as much within a piece of any signs as in a piece of their own.
        self.assertEqual(cut_text("KKKKa"), [(3, "KKKKa")])
        self.assertEqual(cut_text("aKKKK"), [(3, "aKKKK")])
        self.assertEqual(cut_text("aKKKKK"), [(3, "a"), (2, "KKKKK")])

    def test_every_text_of_few_signs(self):
        for length in range(7):
            for signs in itertools.product("7Ka", repeat=length):
                text = "".join(signs)
                with self.subTest(text=text):
                    self.assertEqual(cut_text(text), best_by_trying(text))

    def test_short_texts_against_all_their_cuts(self):
        texts = ["1234567890", "ABCDEFGHIJ", "abcdefghij", "abc1234567", "1234567abc", "ABCDE12345", "12345ABCDE",
                 "ABCDEabcde", "abcdeABCDE", "aB1cD2eF3g", "12A34B56C7", "A1234B5678", "AAAA1111aa", "aa1111AAAA",
                 "111AAA111A", "A111A111AA", "Ab 123, CD", "//--::..,,", "~~~ 000 AA", "AAAAAa1111", "1a1a1a1a1a"]
        chance = Random(7)
        texts += ["".join(chance.choice("05AZ az~/") for _ in range(9)) for _ in range(60)]
        texts += ["".join(chance.choice("059AZ") for _ in range(9)) for _ in range(60)]
        for text in texts:
            with self.subTest(text=text):
                self.assertEqual(cut_text(text), best_by_trying(text))

    def test_the_two_ways_of_these_tests_agree(self):
        for text in ("", "1234567", "KKKKaKK", "aKKKK77", "777KKK7", "a7777KK"):
            self.assertEqual(best_by_ends(text), best_by_trying(text))

    def test_sixty_four_signs_are_one_piece(self):
        self.assertEqual(cut_text("5" * 64), [(1, "5" * 64)])
        self.assertEqual(cut_text("Q" * 64), [(2, "Q" * 64)])
        self.assertEqual(cut_text("q" * 64), [(3, "q" * 64)])

    def test_a_sign_more_begins_with_the_shortest_piece(self):
        # One figure and 64 make 4 + 214 bits, two and 63 make 7 + 210.
        self.assertEqual(cut_text("5" * 65), [(1, "5" * 2), (1, "5" * 63)])
        self.assertEqual(cut_text("Q" * 65), [(2, "Q"), (2, "Q" * 64)])
        self.assertEqual(cut_text("q" * 65), [(3, "q"), (3, "q" * 64)])

    def test_of_equals_the_least_kind_goes_first(self):
        # More than 64 signs need a second piece anyway; the signs at either end may make it for as many bits.
        self.assertEqual(cut_text("K" * 4 + "a" * 57 + "K" * 4), [(2, "K" * 4), (3, "a" * 57 + "K" * 4)])
        self.assertEqual(cut_text("77" + "a" * 61 + "77"), [(1, "77"), (3, "a" * 61 + "77")])
        # The same behind a first piece that is the same in both cuts.
        self.assertEqual(cut_text("7" * 5 + "K" * 4 + "a" * 59 + "K" * 4),
                         [(1, "7" * 5), (2, "K" * 4), (3, "a" * 59 + "K" * 4)])
        for text in ("KKK" + "a" * 60 + "K" * 67, "KKKK" + "a" * 121 + "KKKK", "77" + "a" * 61 + "77KKKK",
                     "KKKK" + "a" * 57 + "KKKK77777", "KKKK" + "a" * 58 + "77", "77" + "a" * 58 + "KKKK"):
            with self.subTest(text=text):
                self.assertEqual(cut_text(text), best_by_ends(text))

    def test_long_runs_of_one_kind(self):
        for kind, sign in ((1, "5"), (2, "Q"), (3, "q")):
            for count in list(range(60, 72)) + list(range(125, 135)) + [191, 192, 193, 194, 256, 257, 299, 300]:
                with self.subTest(kind=kind, count=count):
                    cut = cut_text(sign * count)
                    self.assertEqual(cut, best_by_ends(sign * count))
                    self.assertEqual({piece[0] for piece in cut}, {kind})

    def test_long_runs_between_others(self):
        for first, second, third in itertools.permutations(("5", "Q", "q")):
            for count in (63, 64, 65, 66, 67, 68, 69, 70, 100):
                for text in (first * count + second * 3 + third * 5, second * 4 + first * count + third,
                             first * 66 + second * 67 + third * count):
                    with self.subTest(text=text):
                        self.assertEqual(cut_text(text), best_by_ends(text))

    def test_long_texts(self):
        chance = Random(11)
        for length in (1, 2, 10, 64, 65, 100, 128, 129, 200, 299, 300, 300, 300, 300, 300):
            text = text_of_runs(chance, length)
            with self.subTest(text=text):
                self.assertEqual(cut_text(text), best_by_ends(text))

    def test_every_sign(self):
        for sign in ANY:
            kind = 1 if sign in FIGURES else 2 if sign in CAPITALS else 3
            self.assertEqual(cut_text(sign), [(kind, sign)])
        self.assertEqual(cut_text(ANY), best_by_ends(ANY))
        self.assertEqual(cut_text(ANY[::-1]), best_by_ends(ANY[::-1]))

    def test_the_pieces_are_read_back_from_their_bits(self):
        chance = Random(13)
        for length in (0, 1, 50, 150, 300):
            text = text_of_runs(chance, length)
            pieces = cut_text(text)
            row = [bit for piece in pieces for bit in piece_bits(piece)] + [0, 0]
            self.assertEqual(read_pieces(row), (pieces, len(row)))
            self.assertEqual("".join(signs for kind, signs in pieces), text)

    def test_what_is_told_is_of_the_told_kinds(self):
        told = cut_text("abc1234567KKKKKK")
        self.assertIs(type(told), list)
        self.assertGreater(len(told), 1)
        for piece in told:
            self.assertIs(type(piece), tuple)
            self.assertEqual([type(part) for part in piece], [int, str])

    def test_a_changed_list_changes_no_later_answer(self):
        for text in ("", "abc1234567"):
            told = cut_text(text)
            before = list(told)
            told.append((3, "x"))
            self.assertEqual(cut_text(text), before)


class TestNoSign(unittest.TestCase):
    def assert_refused_at(self, text, place):
        with self.assertRaises(NoSign) as taken:
            cut_text(text)
        self.assertEqual(taken.exception.place, place)
        self.assertIs(type(taken.exception.place), int)

    def test_one_alone(self):
        self.assert_refused_at("\n", 0)
        self.assert_refused_at("\t", 0)

    def test_at_the_start(self):
        self.assert_refused_at("\nabc", 0)
        self.assert_refused_at("\tABC", 0)

    def test_at_the_end(self):
        self.assert_refused_at("abc\n", 3)
        self.assert_refused_at("123\t", 3)

    def test_at_every_place_of_a_long_text(self):
        for place in (0, 1, 2, 63, 64, 65, 150, 298, 299):
            for sign in "\n\t":
                self.assert_refused_at("A" * place + sign + "1" * (299 - place), place)

    def test_the_first_of_several(self):
        self.assert_refused_at("ab\ncd\tef\n", 2)
        self.assert_refused_at("ab\tcd\nef\t", 2)
        self.assert_refused_at("12345\n\n", 5)
        self.assert_refused_at("\t\n", 0)
        self.assert_refused_at("\n\t", 0)
        self.assert_refused_at("a\n\t", 1)
        self.assert_refused_at("a\t\n", 1)


if __name__ == "__main__":
    unittest.main()
