"""The grains of a text, and a text read from its grains (points 8 and 9)."""

from patchsquare.bits import bits_of, number_of
from patchsquare.cutting import cut_text
from patchsquare.errors import NoText, TooLong
from patchsquare.pieces import END, KIND_BITS, piece_bits, read_pieces

GRAIN_BITS = 6
# Laid by turns behind the text's own grains, until the room is full.
FILLING = (42, 21)


def text_grains(text, room):
    return filled_grains(bare_grains(text), room)


def bare_grains(text):
    bits = []
    for piece in cut_text(text):
        bits.extend(piece_bits(piece))
    bits.extend(bits_of(END, KIND_BITS))
    while len(bits) % GRAIN_BITS != 0:
        bits.append(0)
    return grains_of_bits(bits)


def grains_of_bits(bits):
    return [number_of(bits[start:start + GRAIN_BITS]) for start in range(0, len(bits), GRAIN_BITS)]


def bits_of_grains(grains):
    bits = []
    for grain in grains:
        bits.extend(bits_of(grain, GRAIN_BITS))
    return bits


def filled_grains(grains, room):
    if len(grains) > room:
        raise TooLong("the text has more grains than there is room")
    lacking = room - len(grains)
    return grains + [FILLING[step % len(FILLING)] for step in range(lacking)]


# Only the one text whose pieces stand here can make this row, so it is asked to make it again.
def read_grains(grains):
    pieces = read_pieces(bits_of_grains(grains))[0]
    text = "".join([signs for kind, signs in pieces])
    if text_grains(text, len(grains)) != list(grains):
        raise NoText("the text that stands here is written in another way")
    return text
