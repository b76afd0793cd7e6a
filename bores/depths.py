"""The layers of a bore, their spots, how deep they lie, and the bores of a field by place."""


def layers_of(bore):
    layers = []
    for block in bore[3]:
        layers.extend(block)
    return layers


def spots_of_bore(bore):
    return [(bore[0], number) for number in range(len(layers_of(bore)))]


def block_ends(bore):
    ends = []
    count = 0
    for block in bore[3]:
        count += len(block)
        ends.append(count - 1)
    return ends


def depths(bore):
    spans = []
    upper = 0
    for mark, thick in layers_of(bore):
        spans.append((upper, upper + thick))
        upper += thick
    return spans


def whole(bore):
    return sum([thick for mark, thick in layers_of(bore)])


def by_place(field):
    return sorted(field[0], key=lambda bore: bore[1])
