"""Chains and rings looked for among steps."""

from bores.steps import begin_of, end_of, is_strict


def ways_of(records, steps):
    ways = {}
    for step in steps:
        ways.setdefault(begin_of(records, step), []).append((step, end_of(records, step)))
    return ways


def chains_from(ways, begin):
    # For each spot that is reached the steps to it; none for the one where they begin.
    chains = {begin: []}
    waiting = [begin]
    while waiting != []:
        spot = waiting.pop(0)
        for step, reached in ways.get(spot, []):
            if reached not in chains:
                chains[reached] = chains[spot] + [step]
                waiting.append(reached)
    return chains


def ring_through(records, asked, steps):
    # Asked are either strict steps, where any chain back closes a ring, or steps beside others that have no ring by
    # themselves, where the chains from a spot to another one are all strict or none is: so one chain back tells.
    ways = ways_of(records, steps)
    for step in asked:
        back = chains_from(ways, end_of(records, step)).get(begin_of(records, step))
        if back is not None and is_strict([step] + back):
            return [step] + back
    return None
