"""Pieces of a text: their kinds, their bits, and how they are read back (points 4 to 6)."""

from patchsquare.bits import bits_of, number_of
from patchsquare.errors import NoText

END = 0
FIGURES = 1
CAPITALS = 2
ANY = 3

# By kind; a sign's place here is its number. The end has no signs, but keeps the kinds in their places.
KIND_SIGNS = (
    "",
    "0123456789",
    " ABCDEFGHIJKLMNOPQRSTUVWXYZ.,-:/",
    " !\"#$&'()*+,-./0123456789:;<=>?@ABCDEFGHIJKLMNOPQRSTUVWXYZ[\\]^_`abcdefghijklmnopqrstuvwxyz{|}~",
)
# By kind; figures are not written sign by sign, so they have no count here.
SIGN_BITS = (0, 0, 5, 7)

KIND_BITS = 2
COUNT_BITS = 6
MOST_SIGNS = 64

# By how many figures are written together.
FIGURE_BITS = (0, 4, 7, 10)
FIGURE_GREATEST = (0, 9, 99, 999)
MOST_FIGURES = 3


class BitReader:
    def __init__(self, bits):
        self.bits = bits
        self.place = 0

    def read_number(self, count):
        end = self.place + count
        if end > len(self.bits):
            raise NoText("bits are lacking ahead of the end")
        number = number_of(self.bits[self.place:end])
        self.place = end
        return number


# How many bits a piece has, told without making them: a cut weighs many pieces that it doesn't take.
def piece_length(kind, count):
    head = KIND_BITS + COUNT_BITS
    if kind == FIGURES:
        return head + FIGURE_BITS[MOST_FIGURES] * (count // MOST_FIGURES) + FIGURE_BITS[count % MOST_FIGURES]
    return head + SIGN_BITS[kind] * count


def piece_bits(piece):
    kind = piece[0]
    signs = piece[1]
    head = bits_of(kind, KIND_BITS) + bits_of(len(signs) - 1, COUNT_BITS)
    if kind == FIGURES:
        return head + figures_bits(signs)
    return head + signs_bits(kind, signs)


def figures_bits(signs):
    bits = []
    for start in range(0, len(signs), MOST_FIGURES):
        figures = signs[start:start + MOST_FIGURES]
        bits.extend(bits_of(int(figures), FIGURE_BITS[len(figures)]))
    return bits


def signs_bits(kind, signs):
    bits = []
    for sign in signs:
        bits.extend(bits_of(KIND_SIGNS[kind].index(sign), SIGN_BITS[kind]))
    return bits


def read_pieces(bits):
    reader = BitReader(bits)
    pieces = []
    kind = reader.read_number(KIND_BITS)
    while kind != END:
        count = reader.read_number(COUNT_BITS) + 1
        signs = read_figures(reader, count) if kind == FIGURES else read_signs(reader, kind, count)
        pieces.append((kind, signs))
        kind = reader.read_number(KIND_BITS)
    return (pieces, reader.place)


def read_figures(reader, count):
    signs = ""
    while len(signs) < count:
        together = min(MOST_FIGURES, count - len(signs))
        number = reader.read_number(FIGURE_BITS[together])
        if number > FIGURE_GREATEST[together]:
            raise NoText("a number is too great for its figures")
        signs = signs + str(number).zfill(together)
    return signs


def read_signs(reader, kind, count):
    signs = ""
    while len(signs) < count:
        number = reader.read_number(SIGN_BITS[kind])
        if number >= len(KIND_SIGNS[kind]):
            raise NoText("a number is too great for a sign")
        signs = signs + KIND_SIGNS[kind][number]
    return signs
