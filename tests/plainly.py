"""A second telling of what records show, by the document's words, each thing tried out one by one."""

import itertools


def bore(name, place, sizes):
    # A bore told by how many layers each of its blocks has; marks and thicknesses say nothing of an order.
    return (name, place, 7, tuple([(("sand", 1),) * size for size in sizes]))


def spots(records):
    told = []
    for record in records:
        if len(record) == 4:
            told += [(record[0], number) for number in range(sum([len(block) for block in record[3]]))]
    return told


def rows_of_blocks(blocks):
    # The numbers at which a "row" step begins.
    told = []
    begin = 0
    for block in blocks:
        told += range(begin, begin + len(block) - 1)
        begin += len(block)
    return told


def shown(records):
    # Each step that records show, with the number of its record, where it begins and where it ends.
    told = []
    for number, record in enumerate(records, start=1):
        if len(record) == 4:
            name = record[0]
            told += [(number, ("row", name, n), (name, n), (name, n + 1)) for n in rows_of_blocks(record[3])]
        elif record[0] == "over":
            told.append((number, ("over", number), record[1], record[2]))
        else:
            told.append((number, ("one", number, 0), record[1], record[2]))
            told.append((number, ("one", number, 1), record[2], record[1]))
    return told


def shown_by(records, numbers):
    return [each for each in shown(records) if each[0] in numbers]


def is_strict(steps):
    return len([step for step in steps if step[0] in ("row", "over")]) > 0


def leads(steps):
    # All (begin, end, whether it is strict) of chains of some steps, as shown tells them.
    ways = {}
    for number, step, begin, end in steps:
        ways.setdefault(begin, []).append((end, is_strict([step])))
    told = set()
    for begin in ways:
        waiting = [(begin, False)]
        while waiting:
            spot, strict = waiting.pop()
            for end, strict_too in ways.get(spot, []):
                found = (begin, end, strict or strict_too)
                if found not in told:
                    told.add(found)
                    waiting.append(found[1:])
    return told


def has_ring(steps):
    return any([begin == end and strict for begin, end, strict in leads(steps)])


def lie(known, spot, other):
    # How two layers lie, by what leads tells of records without a ring.
    if (spot, other, True) in known:
        return "over"
    if (other, spot, True) in known:
        return "under"
    return "one" if spot == other or (spot, other, False) in known else "open"


def stand_well(known, row):
    # Whether a row of all spots is an order, by the words of 23.
    places = {spot: place for place, spot in enumerate(row)}
    for begin, end, strict in known:
        if strict and places[begin] >= places[end]:
            return False
        if not strict:
            low, high = sorted([places[begin], places[end]])
            if any([(begin, spot, False) not in known for spot in row[low:high + 1] if spot != begin]):
                return False
    return True


def all_orders(records):
    known = leads(shown(records))
    return [list(row) for row in itertools.permutations(spots(records)) if stand_well(known, row)]


def begin_and_end(records, steps):
    # Where a chain of steps of these records begins and ends; None where it is none.
    told = {step: (begin, end) for number, step, begin, end in shown(records)}
    if not steps or not all([step in told for step in steps]):
        return None
    ends = [told[step] for step in steps]
    if any([ahead[1] != behind[0] for ahead, behind in zip(ends, ends[1:])]):
        return None
    return (ends[0][0], ends[-1][1])


def is_ring(records, steps):
    ends = begin_and_end(records, steps)
    return ends is not None and ends[0] == ends[1] and is_strict(steps)


def shows(records, word, spot, other, steps):
    # Whether steps are a chain that shows how two layers lie, by the words of 27.
    if word == "open":
        return steps is None
    if spot == other:
        return steps == [] and word == "one"
    if word == "under":
        return begin_and_end(records, steps) == (other, spot) and is_strict(steps)
    return begin_and_end(records, steps) == (spot, other) and is_strict(steps) == (word == "over")


def lie_as_told(records, layers, words, chains):
    # Whether words and chains, told of each two of the layers, are right for all of them.
    known = leads(shown(records))
    pairs = list(itertools.product(layers, repeat=2))
    right = [lie(known, spot, other) for spot, other in pairs]
    shown_well = [shows(records, word, *pair, steps) for pair, word, steps in zip(pairs, right, chains)]
    return words == right and len(chains) == len(right) and all(shown_well)


def is_the_askers_own(ask):
    # Whether a list that is told stays the same the next time, whatever is done to the one told first.
    kept = list(ask())
    for spoil in (lambda told: told.append("more"), lambda told: told.insert(0, "other"), lambda told: told.clear()):
        told = ask()
        spoil(told)
        if ask() != kept:
            return False
    return True


class Turning:
    """Numbers without a plain pattern, the same ones each time."""

    def __init__(self, seed):
        self.seed = seed

    def below(self, bound):
        self.seed = (self.seed * 1103515245 + 12345) % 2 ** 31
        return (self.seed >> 16) % bound

    def one_of(self, things):
        return things[self.below(len(things))]


def turning_records(seed, bores, sayings):
    # Bores told by their sizes, and so many sayings of their layers, in an order without a plain pattern.
    turning = Turning(seed)
    made = [bore("abcdefghijkl"[place], 20 - place, sizes) for place, sizes in enumerate(bores)]
    layers = spots(made)
    left = list(made)
    for number in range(sayings):
        left.append((turning.one_of(("one", "over")), turning.one_of(layers), turning.one_of(layers)))
    told = []
    while left:
        told.append(left.pop(turning.below(len(left))))
    return told
