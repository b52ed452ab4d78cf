"""The label, which writes level and mask, and how it is read (points 18 and 19)."""

from patchsquare.bits import bits_of
from patchsquare.errors import NoLabel

LEVELS = 4
MASKS = 8
LABEL_CELLS = 16
WEIGHTS = 4
# Any two labels differ at 8 places or more, so up to this sum only one of them is near.
MOST_OFF = 7


def label_bits(level, mask):
    number = MASKS * level + mask
    return [(number + shared_ones(place, number // 2)) % 2 for place in range(LABEL_CELLS)]


def shared_ones(first, second):
    return sum(bits_of(first & second, WEIGHTS))


def read_label(cells):
    missing = len([cell for cell in cells if cell is None])
    for level in range(LEVELS):
        for mask in range(MASKS):
            wrong = count_wrong(cells, label_bits(level, mask))
            if 2 * wrong + missing <= MOST_OFF:
                return (level, mask, wrong, missing)
    raise NoLabel("no label is near enough to these cells")


def count_wrong(cells, bits):
    return len([cell for cell, bit in zip(cells, bits) if cell is not None and cell != bit])
