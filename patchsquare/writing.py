"""A text written as a square (point 25)."""

from patchsquare.blocks import SIZES, data_room
from patchsquare.errors import TooLong
from patchsquare.faults import best_mask
from patchsquare.grains import bare_grains, filled_grains
from patchsquare.laying import laid_square
from patchsquare.wrapping import wrapped_grains


def written_at(text, size, level, mask):
    return laid_square(wrapped_text(bare_grains(text), size, level), size, level, mask)


def written_square(text, level):
    grains = bare_grains(text)
    size = least_size(len(grains), level)
    wrapped = wrapped_text(grains, size, level)
    return laid_square(wrapped, size, level, best_mask(wrapped, size, level)[0])


def wrapped_text(grains, size, level):
    return wrapped_grains(filled_grains(grains, data_room(size, level)), size, level)


def least_size(count, level):
    for size in SIZES:
        if count <= data_room(size, level):
            return size
    raise TooLong("the text has more grains than the greatest size has room")
