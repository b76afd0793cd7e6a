"""Bores, likes and fields: whether they fit, and the points of two marks."""

from bores.errors import Unfit
from bores.words import is_name

LEAST_THICK = 1
LEAST_POINTS = 1
MOST_POINTS = 9


def bore_fits(bore):
    return head_fits(bore[0], bore[1], bore[2]) and blocks_fit(bore[3])


def head_fits(name, place, top):
    return is_name(name) and place >= 0 and top >= 0


def blocks_fit(blocks):
    return len(blocks) > 0 and all([block_fits(block) for block in blocks])


def block_fits(block):
    return len(block) > 0 and all([is_name(mark) and thick >= LEAST_THICK for mark, thick in block])


def fits(field):
    return bores_fit(field[0]) and likes_fit(field[1])


def fitted(field):
    if not fits(field):
        raise Unfit("the field doesn't fit")
    return field


def bores_fit(bores):
    if not all([bore_fits(bore) for bore in bores]):
        return False
    return are_unlike([bore[0] for bore in bores]) and are_unlike([bore[1] for bore in bores])


def likes_fit(likes):
    if not all([like_fits(mark, other, points) for mark, other, points in likes]):
        return False
    return are_unlike([two_marks(mark, other) for mark, other, points in likes])


def like_fits(mark, other, points):
    return is_name(mark) and is_name(other) and LEAST_POINTS <= points <= MOST_POINTS


def are_unlike(values):
    return len(set(values)) == len(values)


def two_marks(mark, other):
    # A like speaks of its marks either way about, so both ways are written as one.
    return (min(mark, other), max(mark, other))


def points_of(likes, mark, other):
    asked = two_marks(mark, other)
    for one, another, points in likes:
        if two_marks(one, another) == asked:
            return points
    return 1 if mark == other else 0
