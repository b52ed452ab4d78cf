"""The report on a picture (point 29)."""

from patchsquare.pictures import read_picture
from patchsquare.reading import read_square


def report_on(picture):
    told = read_square(read_picture(picture))
    rows = ["text " + told[0], square_row(told[1], told[2], told[3], told[4]), "marks " + str(told[5])]
    rows.append(pair_row("label", told[6]))
    rows.extend([pair_row("block", pair) for pair in told[7]])
    return "\n".join(rows)


def square_row(size, level, mask, turn):
    return f"size {size} level {level} mask {mask} turn {turn}"


def pair_row(name, pair):
    wrong = pair[0]
    missing = pair[1]
    return f"{name} {wrong} {missing}"
