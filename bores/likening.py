"""Two rows of marks likened: the worth of pairs, the table of the greatest worths, the likening told."""

from bores.fields import points_of


def worth(likes, row, other, pairs):
    if not (all_rise(pairs) and all_lie_within(row, other, pairs)):
        return None
    points = [points_of(likes, row[one], other[another]) for one, another in pairs]
    return None if 0 in points else sum(points)


def all_rise(pairs):
    return all([ahead[0] < behind[0] and ahead[1] < behind[1] for ahead, behind in zip(pairs, pairs[1:])])


def all_lie_within(row, other, pairs):
    return all([0 <= one < len(row) and 0 <= another < len(other) for one, another in pairs])


def table(likes, row, other):
    # From the end on: each list of worths needs the one behind it.
    worths = [[0] * (len(other) + 1)]
    for mark in reversed(row):
        worths.append(worths_with(points_beside(likes, mark, other), worths[-1]))
    worths.reverse()
    return worths


def points_beside(likes, mark, other):
    return [points_of(likes, mark, another) for another in other]


def worths_with(points, behind):
    worths = [0]
    for place in range(len(points) - 1, -1, -1):
        # Points of 0 need no care here: to leave both marks out is worth no more than to leave out one.
        worths.append(max(behind[place], worths[-1], points[place] + behind[place + 1]))
    worths.reverse()
    return worths


def liken(likes, row, other):
    worths = table(likes, row, other)
    pairs = []
    begin = 0
    for place, mark in enumerate(row):
        partner = first_partner(points_beside(likes, mark, other), worths[place], worths[place + 1], begin)
        if partner is not None:
            pairs.append((place, partner))
            begin = partner + 1
    return pairs


def first_partner(points, worths, behind, begin):
    # A pair belongs to pairs of the greatest worth just where it and what is left behind it make up that worth.
    for place in range(begin, len(points)):
        if points[place] > 0 and points[place] + behind[place + 1] == worths[begin]:
            return place
    return None
