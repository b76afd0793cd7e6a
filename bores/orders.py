"""Orders of records, or rings; how two layers lie, and chains that show it."""

from bores.chains import chains_from, ring_through, ways_of
from bores.steps import begin_of, end_of, is_strict, spots_of, steps_of


def settle(records):
    steps = steps_of(records)
    ring = ring_through(records, [step for step in steps if is_strict([step])], steps)
    if ring is not None:
        return ("ring", ring)
    return ("order", order_of(records))


def order_of(records):
    # Without a ring more spots lead to a layer than to any that lies over it; and the very same spots lead to two
    # layers just where these are one.
    ways = ways_of(records, steps_of(records))
    spots = spots_of(records)
    ahead = dict([(spot, []) for spot in spots])
    for spot in spots:
        for reached in chains_from(ways, spot):
            ahead[reached].append(spot)
    return sorted(spots, key=lambda each: (len(ahead[each]), ahead[each]))


def is_order(records, spots):
    if sorted(spots) != sorted(spots_of(records)):
        return False
    groups = groups_of(records, spots)
    return all([keeps_step(records, groups, step) for step in steps_of(records)])


def groups_of(records, spots):
    # Spots side by side that are one make a group; groups are numbered in the order of the spots.
    ways = ways_of(records, [step for step in steps_of(records) if not is_strict([step])])
    groups = {}
    number = 0
    group = {}
    for spot in spots:
        if spot not in group:
            number += 1
            group = chains_from(ways, spot)
        groups[spot] = number
    return groups


def keeps_step(records, groups, step):
    begin = groups[begin_of(records, step)]
    end = groups[end_of(records, step)]
    return begin < end if is_strict([step]) else begin == end


def lies(records, spot, other):
    steps = chain(records, spot, other)
    if steps is None:
        return "open"
    if not is_strict(steps):
        return "one"
    return "over" if begin_of(records, steps[0]) == spot else "under"


def chain(records, spot, other):
    ways = ways_of(records, steps_of(records))
    forth = chains_from(ways, spot).get(other)
    if forth is not None:
        return forth
    return chains_from(ways, other).get(spot)


def order_with(records, spot, other):
    if lies(records, spot, other) == "one":
        return with_ahead(order_of(records), spot, other)
    # No order is left where the second lies over the first: then the saying makes a ring.
    settled = settle(records + [("over", spot, other)])
    return settled[1] if settled[0] == "order" else None


def with_ahead(spots, spot, other):
    # Layers that are one may change places in an order.
    if spots.index(spot) < spots.index(other):
        return spots
    swapped = {spot: other, other: spot}
    return [swapped.get(each, each) for each in spots]
