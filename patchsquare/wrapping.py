"""Data wrapped in blocks with checks, and unwrapped and mended again (point 16)."""

from patchsquare.blocks import block_shapes, dealt_rows, parted_rows
from patchsquare.checks import checks_for
from patchsquare.errors import NoMend
from patchsquare.mending import mended_row


def wrapped_grains(data, size, level):
    rows = []
    start = 0
    for count, checks in block_shapes(size, level):
        part = data[start:start + count]
        rows.append(part + checks_for(part, checks))
        start += count
    return dealt_rows(rows)


def unwrapped_grains(grains, missing, size, level):
    shapes = block_shapes(size, level)
    counts = [count + checks for count, checks in shapes]
    rows = parted_rows(grains, counts)
    gaps = parted_rows([place in missing for place in range(len(grains))], counts)
    data = []
    blocks = []
    for block, shape in enumerate(shapes):
        missing_here = [place for place, gone in enumerate(gaps[block]) if gone]
        mended = mended_block(rows[block], missing_here, shape[1], block)
        data.extend(mended[0][:shape[0]])
        blocks.append((len(mended[1]), len(missing_here)))
    return (data, blocks)


def mended_block(row, missing, checks, block):
    try:
        return mended_row(row, missing, checks)
    except NoMend:
        raise NoMend(block) from None
