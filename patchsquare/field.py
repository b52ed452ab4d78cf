"""The field of sixty-four: products, inverses and powers of grains, and the worth of a row (points 10 and 11)."""

from patchsquare.errors import NoInverse

GRAINS = 64
# What brings a doubled grain back below 64.
FOLD = 67


def times_of(a, b):
    product = 0
    doubled = a
    left = b
    while left > 0:
        if left % 2 == 1:
            product = product ^ doubled
        doubled = 2 * doubled
        if doubled >= GRAINS:
            doubled = doubled ^ FOLD
        left = left // 2
    return product


# The 63rd power of each grain but 0 is 1, so one factor fewer makes the inverse.
def inverse_of(a):
    if a == 0:
        raise NoInverse("0 has no inverse")
    return power_of(a, GRAINS - 2)


def power_of(a, k):
    power = 1
    squared = a
    left = k
    while left > 0:
        if left % 2 == 1:
            power = times_of(power, squared)
        squared = times_of(squared, squared)
        left = left // 2
    return power


def worth_at(grains, x):
    worth = 0
    for grain in grains:
        worth = times_of(worth, x) ^ grain
    return worth
