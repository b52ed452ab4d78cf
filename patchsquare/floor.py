"""The floor of a square: its marks, its rulers, the label's places and the data places (points 17, 18 and 20)."""

DARK = 1
LIGHT = 0

MARK_SIDE = 5
# A mark's cells from its border inwards: around, within, the middle.
UPPER_LEFT = (1, 0, 1)
UPPER_RIGHT = (1, 1, 0)
LOWER = (0, 1, 0)

# The label lies in the row and in the column of this number, half of it in each.
LABEL_LINE = 5
LABEL_HALF = 8

STRIP_ROWS = 3


def mark_cells(size):
    lines = list(range(MARK_SIDE)) + list(range(size - MARK_SIDE, size))
    cells = []
    for row in lines:
        for column in lines:
            cells.append((row, column, mark_cell(size, row, column)))
    return cells


def mark_cell(size, row, column):
    depth = min(mark_depth(size, row), mark_depth(size, column))
    if row >= MARK_SIDE:
        return LOWER[depth]
    if column >= MARK_SIDE:
        return UPPER_RIGHT[depth]
    return UPPER_LEFT[depth]


# How far a row or a column lies within its mark, 0 at the mark's border.
def mark_depth(size, line):
    step = line if line < MARK_SIDE else line - (size - MARK_SIDE)
    return min(step, MARK_SIDE - 1 - step)


def ruler_cells(size):
    cells = [(size - 6, size - 6, DARK)]
    for line in range(MARK_SIDE, size - MARK_SIDE):
        cell = DARK if line % 2 == 0 else LIGHT
        cells.append((0, line, cell))
        cells.append((line, 0, cell))
    return sorted(cells)


def label_places(size):
    across = [(LABEL_LINE, 1 + step) for step in range(LABEL_HALF)]
    upwards = [(size - 1 - step, LABEL_LINE) for step in range(LABEL_HALF)]
    return across + upwards


def data_places(size):
    taken = taken_places(size)
    return [place for place in strip_places(size) if place not in taken]


def taken_places(size):
    taken = {}
    for row, column, cell in mark_cells(size) + ruler_cells(size):
        taken[(row, column)] = True
    for place in label_places(size):
        taken[place] = True
    return taken


# All places of the square, in the order of the data places.
def strip_places(size):
    places = []
    leftwards = False
    for top in range(0, size, STRIP_ROWS):
        for step in range(size):
            column = size - 1 - step if leftwards else step
            for row in range(top, min(top + STRIP_ROWS, size)):
                places.append((row, column))
        leftwards = not leftwards
    return places
