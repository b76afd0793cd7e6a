"""Sheets between two bores: how thick they are at a place, the ground, the lines, what would be bored."""

from bores.depths import layers_of, whole
from bores.ratios import less, minus, ratio

NOUGHT = (0, 1)


def sheets(left, right, pairs):
    drawn = []
    begin = (0, 0)
    for one, other in pairs:
        drawn.extend(wedges(begin, (one, other)))
        drawn.append((one, other))
        begin = (one + 1, other + 1)
    drawn.extend(wedges(begin, (len(layers_of(left)), len(layers_of(right)))))
    return drawn


def wedges(begin, end):
    ones = [(number, None) for number in range(begin[0], end[0])]
    others = [(None, number) for number in range(begin[1], end[1])]
    return ones + others


def thick_at(left, right, pairs, place):
    ones = layers_of(left)
    others = layers_of(right)
    return [
        between(left, right, thick_of(ones, one), thick_of(others, other), place)
        for one, other in sheets(left, right, pairs)
    ]


def thick_of(layers, number):
    return 0 if number is None else layers[number][1]


def between(left, right, value, other, place):
    # Each bore's value weighs as much as the place is far from the other bore.
    near_left = right[1] - place
    near_right = place - left[1]
    return ratio(value * near_left + other * near_right, near_left + near_right)


def whole_at(left, right, place):
    return between(left, right, whole(left), whole(right), place)


def ground_at(left, right, place):
    return between(left, right, left[2], right[2], place)


def lines_at(left, right, pairs, place):
    lines = [ground_at(left, right, place)]
    for thick in thick_at(left, right, pairs, place):
        lines.append(minus(lines[-1], thick))
    return lines


def bored_at(left, right, pairs, place):
    drawn = sheets(left, right, pairs)
    thicks = thick_at(left, right, pairs, place)
    return [(sheet, thick) for sheet, thick in zip(drawn, thicks) if less(NOUGHT, thick)]
