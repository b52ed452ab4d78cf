"""The checks behind data, and whether a row is a code row (point 12)."""

from patchsquare.field import power_of, times_of, worth_at
from patchsquare.rows import row_with_noughts


# The grains at which a code row's worth is 0.
def code_noughts(count):
    return [power_of(2, k) for k in range(1, count + 1)]


# The checks are what is left when the data, with room for the checks behind, are divided by the row of the noughts:
# adding just what is left makes a row that this divisor divides, so that is worth 0 at all of them.
def checks_for(data, count):
    divisor = row_with_noughts(code_noughts(count))
    rest = list(data) + [0] * count
    for place in range(len(data)):
        factor = rest[place]
        for step, grain in enumerate(divisor):
            rest[place + step] = rest[place + step] ^ times_of(factor, grain)
    return rest[len(data):]


def is_code(grains, count):
    return all([worth_at(grains, nought) == 0 for nought in code_noughts(count)])
