"""The eight masks: which data places each of them turns over (point 21)."""


def turns_over(mask, row, column):
    if mask == 0:
        return row % 2 == 0
    if mask == 1:
        return column % 2 == 0
    if mask == 2:
        return (row + column) % 2 == 0
    if mask == 3:
        return (row + 2 * column) % 3 == 0
    if mask == 4:
        return (row // 3 + column // 2) % 2 == 0
    if mask == 5:
        return (row * column) % 5 % 2 == 0
    if mask == 6:
        return (row * row + column) % 4 < 2
    return (row + column * column) % 7 < 3
