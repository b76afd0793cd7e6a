import copy
import itertools
import time
import unittest

from bores.orders import chain, is_order, lies, order_with, settle
from tests.plainly import (
    all_orders, bore, has_ring, is_ring, is_the_askers_own, leads, lie, lie_as_told, shown, shows, spots,
    turning_records,
)

A = bore("a", 5, [2, 1])
B = bore("b", 2, [2])
WORDS = [bore("one", 3, [2]), bore("row", 2, [1, 1]), bore("over", 1, [1])]

# Records of at most six layers: few enough for all their orders to be tried out one by one.
SIZES = ([], [[1]], [[2], [1]], [[1, 1], [2]], [[3], [2]], [[2, 1], [1, 1]], [[1], [1], [1], [1]], [[2], [2], [1, 1]])
MANY = [
    turning_records(seed * 7 + sayings, sizes, sayings)
    for seed in range(1, 12)
    for sizes in SIZES
    for sayings in (0, 1, 2, 3, 4, 6)
    if sizes or not sayings
]
WITH_RING = [records for records in MANY if has_ring(shown(records))]
WITHOUT_RING = [records for records in MANY if not has_ring(shown(records))]


def over(one, other):
    return ("over", one, other)


def one(spot, other):
    return ("one", spot, other)


def full_records():
    # Twelve bores of sixty layers and eighty-eight sayings, all of which one order of the layers keeps.
    bores = [bore("abcdefghijkl"[number], 30 - number, [2, 2, 1]) for number in range(12)]
    sayings = []
    for number in range(44):
        name, below = "abcdefghijkl"[number % 12], "abcdefghijkl"[(number * 5 + 1) % 12]
        sayings.append(one((name, number % 5), ("abcdefghijkl"[(number + 3) % 12], number % 5)))
        sayings.append(over((name, number % 4), (below, number % 4 + 1)))
    return sayings[:30] + bores + sayings[30:]


class Settled(unittest.TestCase):
    def test_no_records(self):
        self.assertEqual(settle([]), ("order", []))

    def test_one_order_alone(self):
        self.assertEqual(settle([B]), ("order", [("b", 0), ("b", 1)]))
        self.assertEqual(settle([bore("a", 0, [12])]), ("order", [("a", number) for number in range(12)]))
        told = [("a", 0), ("b", 0), ("b", 1), ("a", 1), ("a", 2)]
        self.assertEqual(
            settle([over(("b", 1), ("a", 1)), A, over(("a", 0), ("b", 0)), B, over(("a", 1), ("a", 2))]),
            ("order", told),
        )

    def test_a_fault_leaves_its_sides_open(self):
        self.assertEqual(
            settle([bore("a", 0, [1, 2]), over(("a", 2), ("a", 0))]), ("order", [("a", 1), ("a", 2), ("a", 0)])
        )

    def test_ring_of_one_over_alone(self):
        self.assertEqual(settle([B, over(("b", 1), ("b", 1))]), ("ring", [("over", 2)]))
        self.assertEqual(settle([over(("a", 0), ("a", 0)), bore("a", 0, [1])]), ("ring", [("over", 1)]))

    def test_one_of_a_layer_and_itself_is_no_ring(self):
        self.assertEqual(settle([one(("b", 1), ("b", 1)), B]), ("order", [("b", 0), ("b", 1)]))

    def test_ring_of_rows_and_ones(self):
        for saying in (one(("b", 0), ("b", 1)), one(("b", 1), ("b", 0))):
            told = settle([B, saying])
            self.assertEqual(told[0], "ring")
            self.assertTrue(is_ring([B, saying], told[1]))
            self.assertEqual({step[0] for step in told[1]}, {"row", "one"})

    def test_ones_alone_make_no_ring(self):
        ones = [one(("a", 0), ("b", 0)), one(("b", 0), ("c", 0)), one(("c", 0), ("a", 0))]
        told = settle([bore(name, place, [1]) for place, name in enumerate("abc")] + ones)
        self.assertEqual((told[0], sorted(told[1])), ("order", [("a", 0), ("b", 0), ("c", 0)]))

    def test_ring_through_several_bores(self):
        bores = [bore(name, place, [2]) for place, name in enumerate("abcd")]
        joints = [
            over(("a", 1), ("b", 0)),
            one(("c", 0), ("b", 1)),
            over(("c", 1), ("d", 0)),
            one(("d", 1), ("a", 0)),
        ]
        for records in (bores + joints, joints + bores, bores[:2] + joints + bores[2:]):
            told = settle(records)
            self.assertEqual(told[0], "ring")
            self.assertTrue(is_ring(records, told[1]))
            for place in range(len(records)):
                # A joint left out leaves an order.
                if len(records[place]) == 3:
                    left = records[:place] + [over(("a", 0), ("a", 1))] + records[place + 1:]
                    self.assertEqual(settle(left)[0], "order")

    def test_bores_named_like_words(self):
        records = WORDS + [over(("row", 1), ("one", 0)), one(("one", 1), ("over", 0)), over(("over", 0), ("row", 0))]
        told = settle(records)
        self.assertEqual(told[0], "order")
        self.assertIn(told[1], all_orders(records))
        records.append(over(("row", 0), ("row", 1)))
        self.assertEqual(settle(records)[0], "ring")

    def test_an_order_just_where_there_is_no_ring(self):
        self.assertGreater(len(WITH_RING), 100)
        self.assertGreater(len(WITHOUT_RING), 100)
        for records in WITHOUT_RING:
            told = settle(records)
            self.assertEqual(told[0], "order")
            self.assertIn(told[1], all_orders(records))
        for records in WITH_RING:
            told = settle(records)
            self.assertEqual(told[0], "ring")
            self.assertTrue(is_ring(records, told[1]), records)
            self.assertEqual(all_orders(records), [])


class Orders(unittest.TestCase):
    def test_no_records(self):
        self.assertIs(is_order([], []), True)

    def test_of_short_records_all_rows_of_spots(self):
        counts = set()
        for records in MANY:
            orders = all_orders(records)
            counts.add(len(orders))
            for row in itertools.permutations(spots(records)):
                self.assertIs(is_order(records, list(row)), list(row) in orders)
        self.assertGreater(len(counts), 10)

    def test_too_short_too_long_twice(self):
        good = [("a", 0), ("a", 1), ("b", 0), ("b", 1), ("a", 2)]
        self.assertIs(is_order([A, B], good), True)
        for place in range(5):
            self.assertIs(is_order([A, B], good[:place] + good[place + 1:]), False)
            for spot in good:
                self.assertIs(is_order([A, B], good[:place] + [spot] + good[place:]), False)
                changed = good[:place] + [spot] + good[place + 1:]
                self.assertIs(is_order([A, B], changed), changed == good)
        self.assertIs(is_order([A, B], []), False)
        self.assertIs(is_order([A, B], good * 80), False)
        self.assertIs(is_order([A, one(("a", 0), ("a", 2))], [("a", 0), ("a", 0), ("a", 2), ("a", 1)]), False)

    def test_that_breaks_a_row(self):
        self.assertIs(is_order([B], [("b", 0), ("b", 1)]), True)
        self.assertIs(is_order([B], [("b", 1), ("b", 0)]), False)
        self.assertIs(is_order([A], [("a", 2), ("a", 0), ("a", 1)]), True)
        self.assertIs(is_order([A], [("a", 1), ("a", 2), ("a", 0)]), False)

    def test_that_breaks_a_saying(self):
        records = [over(("a", 2), ("a", 0)), A]
        self.assertIs(is_order(records, [("a", 2), ("a", 0), ("a", 1)]), True)
        self.assertIs(is_order(records, [("a", 0), ("a", 2), ("a", 1)]), False)
        self.assertIs(is_order(records, [("a", 0), ("a", 1), ("a", 2)]), False)

    def test_that_breaks_a_side_by_side(self):
        c = bore("c", 9, [1])
        records = [A, one(("a", 2), ("a", 0)), c]
        self.assertIs(is_order(records, [("a", 2), ("a", 0), ("a", 1), ("c", 0)]), True)
        self.assertIs(is_order(records, [("c", 0), ("a", 0), ("a", 2), ("a", 1)]), True)
        self.assertIs(is_order(records, [("a", 2), ("c", 0), ("a", 0), ("a", 1)]), False)
        self.assertIs(is_order(records, [("a", 0), ("a", 1), ("a", 2), ("c", 0)]), False)

    def test_one_by_several_sayings(self):
        bores = [bore(name, place, [1]) for place, name in enumerate("abcd")]
        records = [one(("a", 0), ("b", 0))] + bores + [one(("c", 0), ("b", 0))]
        for row in itertools.permutations(spots(bores)):
            self.assertIs(is_order(records, list(row)), row.index(("d", 0)) in (0, 3))

    def test_a_strict_chain_over_a_one(self):
        # b.0 lies under a.0 by way of a layer that is one with it.
        bores = [bore(name, place, [1]) for place, name in enumerate("abc")]
        records = bores + [over(("a", 0), ("b", 0)), one(("b", 0), ("c", 0))]
        self.assertIs(is_order(records, [("a", 0), ("b", 0), ("c", 0)]), True)
        self.assertIs(is_order(records, [("a", 0), ("c", 0), ("b", 0)]), True)
        self.assertIs(is_order(records, [("c", 0), ("a", 0), ("b", 0)]), False)
        self.assertIs(is_order(records, [("c", 0), ("b", 0), ("a", 0)]), False)

    def test_none_of_records_with_a_ring(self):
        for records in ([B, over(("b", 1), ("b", 1))], [B, over(("b", 1), ("b", 0))], [B, one(("b", 1), ("b", 0))]):
            for row in itertools.permutations(spots([B])):
                self.assertIs(is_order(records, list(row)), False)


class HowTwoLie(unittest.TestCase):
    def test_all_words(self):
        c = bore("c", 9, [2])
        records = [A, one(("b", 1), ("a", 0)), B, c, over(("c", 1), ("a", 2)), one(("c", 1), ("a", 1))]
        told = {
            (("b", 0), ("a", 2)): "over",
            (("a", 2), ("b", 0)): "under",
            (("a", 0), ("b", 1)): "one",
            (("b", 1), ("a", 0)): "one",
            (("c", 0), ("b", 0)): "open",
            (("b", 0), ("c", 0)): "open",
            (("c", 0), ("c", 0)): "one",
        }
        for (spot, other), word in told.items():
            self.assertEqual(lies(records, spot, other), word)
            self.assertTrue(shows(records, word, spot, other, chain(records, spot, other)))

    def test_across_a_fault_they_are_open(self):
        self.assertEqual(lies([A], ("a", 0), ("a", 1)), "over")
        self.assertEqual(lies([A], ("a", 1), ("a", 2)), "open")
        self.assertIsNone(chain([A], ("a", 1), ("a", 2)))
        self.assertIsNone(chain([A], ("a", 2), ("a", 0)))

    def test_chains_of_rows(self):
        records = [bore("a", 0, [3])]
        steps = [("row", "a", 0), ("row", "a", 1)]
        self.assertEqual(chain(records, ("a", 0), ("a", 2)), steps)
        self.assertEqual(chain(records, ("a", 2), ("a", 0)), steps)
        self.assertEqual(chain(records, ("a", 1), ("a", 1)), [])

    def test_a_layer_and_itself(self):
        for records in ([B], [B, one(("b", 0), ("b", 0))], [over(("b", 0), ("b", 1)), B]):
            for spot in spots(records):
                self.assertEqual(lies(records, spot, spot), "one")
                self.assertEqual(chain(records, spot, spot), [])

    def test_chains_of_ones_go_either_way(self):
        bores = [bore(name, place, [1]) for place, name in enumerate("abc")]
        records = bores + [one(("a", 0), ("b", 0)), one(("c", 0), ("b", 0))]
        self.assertEqual(chain(records, ("a", 0), ("c", 0)), [("one", 4, 0), ("one", 5, 1)])
        self.assertEqual(chain(records, ("c", 0), ("a", 0)), [("one", 5, 0), ("one", 4, 1)])

    def test_each_two_layers_of_many(self):
        words = {}
        for records in WITHOUT_RING:
            known = leads(shown(records))
            for spot, other in itertools.product(spots(records), repeat=2):
                word = lie(known, spot, other)
                words[word] = words.get(word, 0) + 1
                self.assertEqual(lies(records, spot, other), word)
                self.assertTrue(shows(records, word, spot, other, chain(records, spot, other)))
        self.assertEqual(sorted(words), ["one", "open", "over", "under"])
        self.assertGreater(min(words.values()), 300)


class OrdersWithOneAhead(unittest.TestCase):
    def assert_ahead(self, records, spot, other):
        told = order_with(records, spot, other)
        self.assertIs(is_order(records, told), True)
        self.assertLess(told.index(spot), told.index(other))

    def test_two_that_are_open_both_ways_about(self):
        self.assert_ahead([A], ("a", 2), ("a", 0))
        self.assert_ahead([A], ("a", 0), ("a", 2))
        self.assert_ahead([A, B], ("a", 2), ("b", 1))
        self.assert_ahead([A, B], ("b", 1), ("a", 2))

    def test_two_that_are_one_both_ways_about(self):
        records = [A, B, one(("a", 2), ("b", 0)), one(("b", 0), ("a", 0))]
        for spot, other in itertools.permutations([("a", 2), ("b", 0), ("a", 0)], 2):
            self.assert_ahead(records, spot, other)

    def test_two_that_lie_over_and_under_one_another(self):
        self.assert_ahead([A], ("a", 0), ("a", 1))
        self.assertIsNone(order_with([A], ("a", 1), ("a", 0)))
        records = [A, B, over(("a", 2), ("b", 0))]
        self.assert_ahead(records, ("a", 2), ("b", 1))
        self.assertIsNone(order_with(records, ("b", 1), ("a", 2)))

    def test_each_two_layers_of_many(self):
        for records in WITHOUT_RING:
            orders = all_orders(records)
            known = leads(shown(records))
            for spot, other in itertools.permutations(spots(records), 2):
                ahead = [order for order in orders if order.index(spot) < order.index(other)]
                self.assertEqual(ahead == [], lie(known, spot, other) == "under")
                told = order_with(records, spot, other)
                self.assertTrue(told in ahead if ahead else told is None)


class FullRecords(unittest.TestCase):
    def test_in_good_time(self):
        records = full_records()
        self.assertEqual((len(records), len(spots(records))), (100, 60))
        begun = time.process_time()
        told = settle(records)
        self.assertEqual(told[0], "order")
        self.assertIs(is_order(records, told[1]), True)
        words = [lies(records, spot, other) for spot, other in itertools.product(told[1], repeat=2)]
        chains = [chain(records, spot, other) for spot, other in itertools.product(told[1], repeat=2)]
        rows = [order_with(records, told[1][0], spot) for spot in told[1][1:]]
        self.assertLess(time.process_time() - begun, 60)
        self.assertTrue(lie_as_told(records, told[1], words, chains))
        self.assertTrue(all([is_order(records, row) for row in rows]))

    def test_ring_of_many_steps(self):
        bores = [bore("abcdefghijkl"[number], number, [5]) for number in range(12)]
        joints = [one(("abcdefghijkl"[number], 4), ("abcdefghijkl"[number - 11], 0)) for number in range(12)]
        told = settle(joints + bores)
        self.assertEqual((told[0], len(told[1])), ("ring", 60))
        self.assertTrue(is_ring(joints + bores, told[1]))
        self.assertEqual(settle(joints[1:] + bores)[0], "order")


class ListsToldAndHandedIn(unittest.TestCase):
    def asks(self):
        records = [A, B, one(("a", 2), ("b", 0)), over(("a", 1), ("b", 0))]
        return (
            lambda: settle(records)[1],
            lambda: settle(records + [over(("b", 1), ("b", 1))])[1],
            lambda: chain(records, ("a", 0), ("b", 1)),
            lambda: chain(records, ("b", 1), ("a", 0)),
            lambda: chain(records, ("a", 2), ("b", 0)),
            lambda: order_with(records, ("a", 2), ("b", 0)),
            lambda: order_with(records, ("b", 0), ("a", 2)),
            lambda: order_with(records, ("a", 0), ("b", 1)),
        )

    def test_told_lists_are_the_askers_own(self):
        for ask in self.asks():
            self.assertTrue(is_the_askers_own(ask))

    def test_nothing_told_too(self):
        self.assertTrue(is_the_askers_own(lambda: settle([])[1]))
        self.assertTrue(is_the_askers_own(lambda: chain([B], ("b", 0), ("b", 0))))

    def test_what_is_handed_in_stays_as_it_was(self):
        kept = [one(("a", 2), ("b", 0)), A, B]
        records = copy.deepcopy(kept)
        row = settle(records=records)[1]
        held = list(row)
        self.assertIs(is_order(records=records, spots=row), True)
        for spot, other in itertools.permutations(held, 2):
            lies(records=records, spot=spot, other=other)
            chain(records=records, spot=spot, other=other)
            order_with(records=records, spot=spot, other=other)
        self.assertEqual((records, row), (kept, held))

    def test_kinds(self):
        for records in (MANY[0], MANY[40], WITH_RING[0], WITHOUT_RING[-1]):
            told = settle(records)
            self.assertEqual((type(told), len(told), type(told[1])), (tuple, 2, list))
            self.assertEqual({type(thing) for thing in told[1]} | {tuple}, {tuple})
        for ask in self.asks():
            self.assertIs(type(ask()), list)


if __name__ == "__main__":
    unittest.main()
