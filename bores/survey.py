"""A survey: records that are put in one after another and never have a ring."""

from bores.chains import ring_through
from bores.errors import Clash, Twice, Unfit, Unknown
from bores.fields import bore_fits, bores_fit
from bores.orders import chain, lies, order_of
from bores.steps import all_numbers, bores_among, is_bore, numbers_of, spots_of, steps_of_some


class Survey:
    def __init__(self):
        self.kept = []

    def put(self, record):
        if is_bore(record):
            check_bore(self.kept, record)
        else:
            check_saying(self.kept, record)
        self.kept.append(record)
        return len(self.kept)

    def records(self):
        return list(self.kept)

    def lies(self, spot, other):
        check_spots(self.kept, spot, other)
        return lies(self.kept, spot, other)

    def chain(self, spot, other):
        check_spots(self.kept, spot, other)
        return chain(self.kept, spot, other)

    def order(self):
        return order_of(self.kept)


def check_bore(records, bore):
    if not bore_fits(bore):
        raise Unfit("the bore doesn't fit")
    # All of these fit by themselves, so only a name or a place that is there twice is left to be found.
    if not bores_fit(bores_among(records) + [bore]):
        raise Twice("a bore of that name or of that place is there")


def check_spots(records, spot, other):
    spots = spots_of(records)
    if spot not in spots or other not in spots:
        raise Unknown("a spot is no layer's of the bores that are there")


def check_saying(records, saying):
    check_spots(records, saying[1], saying[2])
    together = records + [saying]
    ring = ring_with_last(together, all_numbers(records))
    if ring is not None:
        least = least_ring(together, ring)
        raise Clash(numbers_of(together, least), least)


def ring_with_last(records, numbers):
    last = len(records)
    return ring_through(records, steps_of_some(records, [last]), steps_of_some(records, numbers))


def least_ring(records, ring):
    # A record that was needed once stays needed, since behind that only others are left out. The last one is always
    # needed: without it there is no ring.
    least = ring
    for number in numbers_of(records, ring)[:-1]:
        left = [other for other in numbers_of(records, least)[:-1] if other != number]
        found = ring_with_last(records, left)
        if found is not None:
            least = found
    return least
