"""Rows of grains as sums of powers, the greatest power first: their products, and rows of told noughts."""

from patchsquare.field import times_of


def row_product(first, second):
    product = [0] * (len(first) + len(second) - 1)
    for place, grain in enumerate(first):
        for step, other in enumerate(second):
            product[place + step] = product[place + step] ^ times_of(grain, other)
    return product


# The shortest row that begins with 1 and whose worth is 0 at each of these grains.
def row_with_noughts(noughts):
    row = [1]
    for nought in noughts:
        row = row_product(row, [1, nought])
    return row
