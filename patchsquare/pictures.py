"""Squares as pictures: texts with a row for each row of the square (point 28)."""

from patchsquare.blocks import SIZES
from patchsquare.errors import NoPicture

CELLS = {"#": 1, ".": 0, "?": None}


def picture_of(square):
    return "\n".join([picture_row(row) for row in square])


def picture_row(row):
    return "".join([sign_of_cell(cell) for cell in row])


def sign_of_cell(cell):
    if cell is None:
        return "?"
    return "#" if cell == 1 else "."


def read_picture(picture):
    rows = picture.split("\n")
    if len(rows) not in SIZES:
        raise NoPicture(0)
    square = []
    for number, row in enumerate(rows):
        if len(row) != len(rows) or not all([sign in CELLS for sign in row]):
            raise NoPicture(number)
        square.append([CELLS[sign] for sign in row])
    return square
