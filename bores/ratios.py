"""Ratios: tuples (top, bottom) in lowest terms, bottom from 1 on."""


def ratio(top, bottom):
    divisor = greatest_divisor(abs(top), abs(bottom))
    # The bottom's sign goes into the divisor, so that the bottom told is from 1 on.
    if bottom < 0:
        divisor = -divisor
    return (top // divisor, bottom // divisor)


def greatest_divisor(one, other):
    while other != 0:
        rest = one % other
        one = other
        other = rest
    return one


def plus(one, other):
    return ratio(one[0] * other[1] + other[0] * one[1], one[1] * other[1])


def minus(one, other):
    return plus(one, (-other[0], other[1]))


def less(one, other):
    return one[0] * other[1] < other[0] * one[1]
