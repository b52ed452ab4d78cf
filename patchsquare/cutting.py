"""Cutting a text into the pieces that have the fewest bits (point 7)."""

from patchsquare.errors import NoSign
from patchsquare.pieces import ANY, CAPITALS, FIGURES, KIND_SIGNS, MOST_SIGNS, piece_length


def cut_text(text):
    refuse_strange_signs(text)
    cuts = best_cuts(text)
    pieces = []
    start = 0
    while start < len(text):
        kind = cuts[start][2]
        end = start + cuts[start][3]
        pieces.append((kind, text[start:end]))
        start = end
    return pieces


def refuse_strange_signs(text):
    for place, sign in enumerate(text):
        if sign not in KIND_SIGNS[ANY]:
            raise NoSign(place)


# The best cut from each place on, as (bits, pieces, kind, count), kind and count those of its first piece.
# The least of these tuples is the cut that is asked for: whatever the first piece is, what is behind it
# is best cut by the same order.
def best_cuts(text):
    cuts = [(0, 0, 0, 0)] * (len(text) + 1)
    runs = {FIGURES: 0, CAPITALS: 0, ANY: 0}
    for start in range(len(text) - 1, -1, -1):
        choices = []
        for kind in list(runs):
            runs[kind] = runs[kind] + 1 if text[start] in KIND_SIGNS[kind] else 0
            choices.extend(cuts_of_kind(cuts, start, kind, runs[kind]))
        cuts[start] = min(choices)
    return cuts


# The cuts from this place on whose first piece is of this kind; run says how many signs of it stand here.
def cuts_of_kind(cuts, start, kind, run):
    choices = []
    for count in range(1, min(run, MOST_SIGNS) + 1):
        rest = cuts[start + count]
        choices.append((piece_length(kind, count) + rest[0], 1 + rest[1], kind, count))
    return choices
