"""Grains laid out as a square, and taken from one again (point 22)."""

from patchsquare.bits import number_of
from patchsquare.blocks import ROOMS
from patchsquare.floor import data_places, label_places, mark_cells, ruler_cells
from patchsquare.grains import GRAIN_BITS, bits_of_grains
from patchsquare.labels import label_bits
from patchsquare.masks import turns_over


def laid_square(grains, size, level, mask):
    square = [[0] * size for row in range(size)]
    for row, column, cell in floor_cells(size, level, mask) + laid_cells(grains, size, mask):
        square[row][column] = cell
    return square


def floor_cells(size, level, mask):
    cells = mark_cells(size) + ruler_cells(size)
    for place, bit in zip(label_places(size), label_bits(level, mask)):
        cells.append((place[0], place[1], bit))
    return cells


def laid_cells(grains, size, mask):
    places = data_places(size)
    bits = bits_of_grains(grains)
    bits.extend([0] * (len(places) - len(bits)))
    return [(place[0], place[1], masked_cell(bit, mask, place)) for place, bit in zip(places, bits)]


# A mask undoes itself, so this serves laying and taking alike; a missing cell stays missing.
def masked_cell(cell, mask, place):
    if cell is not None and turns_over(mask, place[0], place[1]):
        return 1 - cell
    return cell


def taken_grains(square, mask):
    size = len(square)
    cells = [masked_cell(square[place[0]][place[1]], mask, place) for place in data_places(size)]
    grains = []
    missing = []
    for number in range(ROOMS[size]):
        bits = cells[GRAIN_BITS * number:GRAIN_BITS * (number + 1)]
        if None in bits:
            missing.append(number)
            grains.append(0)
        else:
            grains.append(number_of(bits))
    return (grains, missing)
