"""A square read as a text (points 26 and 27)."""

from patchsquare.blocks import SIZES
from patchsquare.errors import NoSquare
from patchsquare.floor import label_places
from patchsquare.grains import read_grains
from patchsquare.labels import read_label
from patchsquare.laying import taken_grains
from patchsquare.turning import found_turn, turned_back
from patchsquare.wrapping import unwrapped_grains


def read_square(square):
    refuse_other_shapes(square)
    size = len(square)
    found = found_turn(square)
    upright = turned_back(square, found[0])
    label = read_label([upright[row][column] for row, column in label_places(size)])
    level = label[0]
    mask = label[1]
    taken = taken_grains(upright, mask)
    unwrapped = unwrapped_grains(taken[0], taken[1], size, level)
    text = read_grains(unwrapped[0])
    return (text, size, level, mask, found[0], found[1], (label[2], label[3]), unwrapped[1])


def refuse_other_shapes(square):
    if len(square) not in SIZES:
        raise NoSquare("no size has so many rows")
    for row in square:
        if len(row) != len(square):
            raise NoSquare("a row has not as many cells as there are rows")
