"""The faults of a square, and the mask that leaves the fewest (point 23)."""

from patchsquare.labels import MASKS
from patchsquare.laying import laid_square
from patchsquare.turning import turned_square

# The shortest run that is a fault, and what its length is lessened by.
LEAST_RUN = 4
RUN_LESS = 2
PATCH_FAULTS = 2
LIKE_LINES_FAULTS = 9


def square_faults(square):
    # A quarter turned, the columns are rows; that they are read from below changes nothing here.
    columns = turned_square(square, 1)
    runs = sum([run_faults(line) for line in square + columns])
    patches = PATCH_FAULTS * like_patches(square)
    lines = LIKE_LINES_FAULTS * (like_neighbours(square) + like_neighbours(columns))
    return runs + patches + lines + uneven_faults(square)


def run_faults(line):
    faults = 0
    length = 0
    for place, cell in enumerate(line):
        length += 1
        if place + 1 == len(line) or line[place + 1] != cell:
            faults += length - RUN_LESS if length >= LEAST_RUN else 0
            length = 0
    return faults


def like_patches(square):
    patches = 0
    for row in range(len(square) - 1):
        for column in range(len(square) - 1):
            upper = square[row][column:column + 2]
            if upper[0] == upper[1] and square[row + 1][column:column + 2] == upper:
                patches += 1
    return patches


def like_neighbours(lines):
    return len([place for place in range(len(lines) - 1) if lines[place] == lines[place + 1]])


def uneven_faults(square):
    dark = sum([sum(row) for row in square])
    light = len(square) * len(square) - dark
    return abs(dark - light) // len(square)


def best_mask(grains, size, level):
    ranks = [(square_faults(laid_square(grains, size, level, mask)), mask) for mask in range(MASKS)]
    best = min(ranks)
    return (best[1], best[0])
