"""Squares turned and mirrored, and the turn found by the marks (point 24)."""

from patchsquare.errors import NoMarks
from patchsquare.floor import mark_cells

TURNS = 8
QUARTERS = 4
# The turns of the marks differ at 18 cells or more, so with so few cells off only one of them is near.
MOST_OFF = 8


def turned_square(square, turn):
    upright = mirrored(square) if is_mirroring(turn) else square
    return quarters_turned(upright, turn % QUARTERS)


def turned_back(square, turn):
    upright = quarters_turned(square, (QUARTERS - turn % QUARTERS) % QUARTERS)
    return mirrored(upright) if is_mirroring(turn) else upright


def is_mirroring(turn):
    return turn >= QUARTERS


def mirrored(square):
    return [list(reversed(row)) for row in square]


def quarters_turned(square, quarters):
    turned = [list(row) for row in square]
    for quarter in range(quarters):
        turned = [column_upwards(turned, column) for column in range(len(turned))]
    return turned


# Clockwise, the first column, read from below, becomes the first row.
def column_upwards(square, column):
    return [row[column] for row in reversed(square)]


def found_turn(square):
    for turn in range(TURNS):
        off = marks_off(turned_back(square, turn))
        if off <= MOST_OFF:
            return (turn, off)
    raise NoMarks("no turn has marks that are near enough")


def marks_off(square):
    return len([cell for row, column, cell in mark_cells(len(square)) if square[row][column] != cell])
