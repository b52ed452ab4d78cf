"""Mending a row with wrong and missing grains (point 13).

The locator of the place p in a row of n grains is 2 to the n - 1 - p. The row's worth at 2 to the k is the sum, over
the places that are off from a code row, of what is off there times the place's locator to the k: from these worths,
which would all be 0, the places and what is off there are reckoned.
"""

from patchsquare.checks import code_noughts, is_code
from patchsquare.errors import NoMend
from patchsquare.field import inverse_of, power_of, times_of, worth_at
from patchsquare.rows import row_product, row_with_noughts


def mended_row(grains, missing, count):
    if len(missing) > count:
        raise NoMend(0)
    worths = [worth_at(grains, nought) for nought in code_noughts(count)]
    suspects = list(missing) + suspect_places(worths, missing, len(grains))
    mended = changed_row(grains, suspects, worths)
    wrong = [place for place in range(len(grains)) if place not in missing and mended[place] != grains[place]]
    # Where too much is off, the suspects are not the right ones, which shows only in what comes of them.
    if 2 * len(wrong) + len(missing) > count or not is_code(mended, count):
        raise NoMend(0)
    return (mended, wrong)


def locator_of(place, length):
    return power_of(2, length - 1 - place)


# The places besides the missing ones where something is off. Multiplied by the row whose noughts are the missing
# places' locators, the worths from the count of these places on hang on the other places alone.
def suspect_places(worths, missing, length):
    gaps = row_with_noughts([locator_of(place, length) for place in missing])
    freed = row_product(worths, gaps)[len(missing):len(worths)]
    rule = shortest_rule(freed)
    others = [place for place in range(length) if place not in missing]
    return [place for place in others if worth_at(rule, locator_of(place, length)) == 0]


# The shortest row (1, a, b ..) such that each number, from some place on, and a times the one ahead of it, and b times
# the one ahead of that .. add up to 0; its noughts are the locators. It is found number by number (Berlekamp and
# Massey): where the rule fails, the rule that failed ahead of the last lengthening, moved up to here, amends it.
def shortest_rule(numbers):
    rule = [1]
    length = 0
    former = [1]
    former_gap = 1
    for place in range(len(numbers)):
        former = [0] + former
        gap = gap_of_rule(rule, numbers, place)
        if gap == 0:
            continue
        amended = added_rows(rule, scaled_row(former, times_of(gap, inverse_of(former_gap))))
        if 2 * length <= place:
            length = place + 1 - length
            former = rule
            former_gap = gap
        rule = amended
    return rule


# A rule that was made by the numbers ahead of a place never reaches further back than to the first of them.
def gap_of_rule(rule, numbers, place):
    gap = 0
    for back, factor in enumerate(rule):
        gap = gap ^ times_of(factor, numbers[place - back])
    return gap


def scaled_row(row, factor):
    return [times_of(grain, factor) for grain in row]


def added_rows(first, second):
    added = first + [0] * (len(second) - len(first))
    for place, grain in enumerate(second):
        added[place] = added[place] ^ grain
    return added


# The row with each suspect place changed by just what takes its part out of the worths (Forney).
def changed_row(grains, suspects, worths):
    locators = [locator_of(place, len(grains)) for place in suspects]
    heads = row_product(worths, row_with_noughts(locators))[:len(locators)]
    changed = list(grains)
    for place, locator in zip(suspects, locators):
        share = inverse_of(times_of(locator, distances_product(locator, locators)))
        changed[place] = changed[place] ^ times_of(worth_at(heads, locator), share)
    return changed


def distances_product(locator, locators):
    product = 1
    for other in locators:
        if other != locator:
            product = times_of(product, locator ^ other)
    return product
