"""Threads of tied layers from bore to bore, and what the faults of a bore double."""

from bores.depths import block_ends, by_place, layers_of, spots_of_bore
from bores.likening import liken


def threads(field):
    ties = ties_of(field)
    tied = list(ties.values())
    told = []
    for bore in by_place(field):
        told.extend([thread_from(ties, spot) for spot in spots_of_bore(bore) if spot not in tied])
    return told


def ties_of(field):
    bores = by_place(field)
    ties = {}
    for left, right in zip(bores, bores[1:]):
        for one, other in liken_layers(field[1], layers_of(left), layers_of(right)):
            ties[(left[0], one)] = (right[0], other)
    return ties


def liken_layers(likes, layers, others):
    return liken(likes, [mark for mark, thick in layers], [mark for mark, thick in others])


def thread_from(ties, spot):
    thread = [spot]
    while thread[-1] in ties:
        thread.append(ties[thread[-1]])
    return thread


def doubled(bore, likes):
    blocks = bore[3]
    told = []
    for above, below, end in zip(blocks, blocks[1:], block_ends(bore)):
        upper = end + 1 - len(above)
        lower = end + 1
        told.append([(upper + one, lower + other) for one, other in liken_layers(likes, above, below)])
    return told
