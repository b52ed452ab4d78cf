"""The blocks of a square: their shapes, and rows dealt by turns (points 14 and 15)."""

SIZES = (15, 19, 23, 27, 31)
# By size.
ROOMS = {15: 16, 19: 37, 23: 64, 27: 96, 31: 133}
BLOCK_COUNTS = {15: 1, 19: 1, 23: 2, 27: 2, 31: 3}


def block_shapes(size, level):
    blocks = BLOCK_COUNTS[size]
    share = ROOMS[size] // blocks
    rest = ROOMS[size] % blocks
    checks = 2 * (share * (level + 1) // 16 + 1)
    shapes = []
    for block in range(blocks):
        grains = share + 1 if block >= blocks - rest else share
        shapes.append((grains - checks, checks))
    return shapes


def data_room(size, level):
    return sum([data for data, checks in block_shapes(size, level)])


def dealt_rows(rows):
    dealt = []
    for turn in range(max([len(row) for row in rows], default=0)):
        for row in rows:
            if turn < len(row):
                dealt.append(row[turn])
    return dealt


def parted_rows(grains, counts):
    rows = [[] for count in counts]
    place = 0
    for turn in range(max(counts, default=0)):
        for number, count in enumerate(counts):
            if turn < count:
                rows[number].append(grains[place])
                place += 1
    return rows
