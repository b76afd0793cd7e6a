import copy
import itertools
import unittest

from bores.likening import liken
from bores.threads import doubled, threads

GREATEST = 10 ** 60 - 1
LIKES = (("sand", "silt", 5), ("clay", "clay", 3), ("marl", "chalk", 2))
MARKS = ("sand", "silt", "clay", "marl", "chalk")


def bore(name, place, blocks):
    # Each block is told by its marks, as the words of a text; the layers' thicknesses say nothing here.
    layers = [tuple([(mark, 1 + number) for number, mark in enumerate(block.split())]) for block in blocks]
    return (name, place, 7, tuple(layers))


def marks_of(asked):
    return [mark for block in asked[3] for mark, thick in block]


def turning_field(count, most, seed):
    # A field without a plain pattern, its bores in another order than that of their places, the same each time.
    bores = []
    for number in range(count):
        marks = []
        for layer in range(1 + (seed >> 16) % most):
            seed = (seed * 1103515245 + 12345) % 2 ** 31
            marks.append(MARKS[(seed >> 16) % len(MARKS)])
        cut = (seed >> 8) % len(marks)
        blocks = [" ".join(part) for part in (marks[:cut], marks[cut:]) if part]
        bores.append(bore("abcdefghijkl"[number], (number * 7 + seed) % 12 + 12 * (number % 3), blocks))
    return (tuple(bores), LIKES[:seed % 4])


def has_unlike_places(field):
    return len({asked[1] for asked in field[0]}) == len(field[0])


MANY = [turning_field(count, most, seed) for count in (2, 3, 5, 12) for most in (1, 3, 5) for seed in range(1, 400, 13)]
FIELDS = [field for field in MANY if has_unlike_places(field)]


def tied_spots(field):
    # All ties, by likening the marks of the neighbours.
    bores = sorted(field[0], key=lambda asked: asked[1])
    ties = []
    for left, right in zip(bores, bores[1:]):
        for one, other in liken(field[1], marks_of(left), marks_of(right)):
            ties.append(((left[0], one), (right[0], other)))
    return ties


class Threads(unittest.TestCase):
    def test_no_bores(self):
        self.assertEqual(threads(((), ())), [])
        self.assertEqual(threads(((), LIKES)), [])

    def test_one_bore(self):
        self.assertEqual(threads(((bore("a", 3, ["sand"]),), ())), [[("a", 0)]])
        self.assertEqual(
            threads(((bore("a", 3, ["sand sand", "sand"]),), (("sand", "sand", 9),))),
            [[("a", 0)], [("a", 1)], [("a", 2)]],
        )

    def test_two_bores(self):
        west, east = bore("w", 0, ["sand clay marl"]), bore("e", 5, ["clay", "marl sand"])
        told = [[("w", 0)], [("w", 1), ("e", 0)], [("w", 2), ("e", 1)], [("e", 2)]]
        self.assertEqual(threads(((west, east), ())), told)
        self.assertEqual(threads(((east, west), ())), told)

    def test_the_lesser_place_is_the_first_row(self):
        # Pairs of like worth: which one is told depends on which row is the first.
        for west, east in (("b", "a"), ("a", "b")):
            field = ((bore(east, 9, ["clay sand"]), bore(west, 2, ["sand clay"])), ())
            self.assertEqual(threads(field), [[(west, 0), (east, 1)], [(west, 1)], [(east, 0)]])

    def test_layers_tied_to_none(self):
        field = ((bore("a", 1, ["sand marl"]), bore("b", 2, ["clay"]), bore("c", 3, ["sand marl"])), ())
        self.assertEqual(threads(field), [[("a", 0)], [("a", 1)], [("b", 0)], [("c", 0)], [("c", 1)]])

    def test_through_three_bores_and_more(self):
        field = (
            (
                bore("d", 40, ["sand chalk"]),
                bore("b", 20, ["clay", "sand marl"]),
                bore("a", 10, ["sand clay marl"]),
                bore("c", 30, ["clay silt", "sand", "chalk"]),
            ),
            LIKES,
        )
        self.assertEqual(
            threads(field),
            [
                [("a", 0)],
                [("a", 1), ("b", 0), ("c", 0)],
                [("a", 2), ("b", 2), ("c", 3), ("d", 1)],
                [("b", 1), ("c", 1), ("d", 0)],
                [("c", 2)],
            ],
        )

    def test_the_likes_of_the_field(self):
        bores = (bore("a", 1, ["sand"]), bore("b", 2, ["silt"]))
        self.assertEqual(threads((bores, ())), [[("a", 0)], [("b", 0)]])
        self.assertEqual(threads((bores, LIKES)), [[("a", 0), ("b", 0)]])
        self.assertEqual(threads((bores, (("silt", "sand", 1),))), [[("a", 0), ("b", 0)]])

    def test_neighbours_alone_are_likened(self):
        field = ((bore("a", 1, ["sand"]), bore("c", 3, ["sand"]), bore("b", 2, ["clay"])), ())
        self.assertEqual(threads(field), [[("a", 0)], [("b", 0)], [("c", 0)]])

    def test_faults_part_no_threads(self):
        field = ((bore("a", 1, ["sand", "clay", "marl"]), bore("b", 2, ["sand clay", "marl"])), ())
        self.assertEqual(threads(field), [[("a", n), ("b", n)] for n in range(3)])

    def test_order_by_places_that_are_numbers(self):
        places = (100, 9, GREATEST, 20, 0)
        bores = tuple([bore("vwxyz"[number], place, [MARKS[number]]) for number, place in enumerate(places)])
        self.assertEqual(threads((bores, ())), [[("z", 0)], [("w", 0)], [("y", 0)], [("v", 0)], [("x", 0)]])

    def test_more_than_ten_layers_by_their_numbers(self):
        field = ((bore("a", 1, ["sand " * 12]), bore("b", 2, ["clay " * 12])), ())
        self.assertEqual(threads(field), [[(name, number)] for name in "ab" for number in range(12)])

    def test_twelve_bores_of_one_row(self):
        bores = [bore("abcdefghijkl"[number], 100 - number, ["sand clay", "marl sand silt"]) for number in range(12)]
        told = [[("abcdefghijkl"[11 - number], layer) for number in range(12)] for layer in range(5)]
        for some in (bores, bores[::-1], bores[5:] + bores[:5]):
            self.assertEqual(threads((tuple(some), ())), told)

    def test_order_of_the_bores_says_nothing(self):
        bores = FIELDS[40][0][:3]
        told = threads((bores, LIKES))
        for some in itertools.permutations(bores):
            self.assertEqual(threads((some, LIKES)), told)


class ThreadsOfManyFields(unittest.TestCase):
    def test_there_are_many(self):
        self.assertGreater(len(FIELDS), 100)
        self.assertEqual({len(field[0]) for field in FIELDS}, {2, 3, 5, 12})
        self.assertGreater(max([len(thread) for field in FIELDS for thread in threads(field)]), 3)

    def test_each_layer_once(self):
        for field in FIELDS:
            told = sorted([spot for thread in threads(field) for spot in thread])
            layers = sorted([(asked[0], n) for asked in field[0] for n in range(len(marks_of(asked)))])
            self.assertEqual(told, layers)

    def test_each_spot_is_tied_to_the_next(self):
        for field in FIELDS:
            steps = [step for thread in threads(field) for step in zip(thread, thread[1:])]
            self.assertEqual(sorted(steps), sorted(tied_spots(field)))

    def test_order_by_first_spots(self):
        for field in FIELDS:
            places = {asked[0]: asked[1] for asked in field[0]}
            firsts = [(places[thread[0][0]], thread[0][1]) for thread in threads(field)]
            self.assertEqual(firsts, sorted(firsts))

    def test_kinds(self):
        for field in FIELDS[::9]:
            told = threads(field)
            self.assertIs(type(told), list)
            self.assertEqual({type(thread) for thread in told}, {list})
            self.assertEqual({type(spot) for thread in told for spot in thread}, {tuple})
            self.assertEqual({(type(name), type(n)) for thread in told for name, n in thread}, {(str, int)})


class Doubled(unittest.TestCase):
    def test_no_fault(self):
        self.assertEqual(doubled(bore("a", 0, ["sand"]), ()), [])
        self.assertEqual(doubled(bore("a", 0, ["sand sand sand"]), (("sand", "sand", 9),)), [])

    def test_one_fault(self):
        self.assertEqual(doubled(bore("a", 0, ["sand", "sand"]), ()), [[(0, 1)]])
        self.assertEqual(doubled(bore("a", 0, ["sand clay marl", "clay marl"]), ()), [[(1, 3), (2, 4)]])
        self.assertEqual(doubled(bore("a", 0, ["sand clay", "marl sand clay"]), ()), [[(0, 3), (1, 4)]])

    def test_a_fault_that_doubles_nothing(self):
        self.assertEqual(doubled(bore("a", 0, ["sand", "clay"]), ()), [[]])
        self.assertEqual(doubled(bore("a", 0, ["sand", "clay", "sand"]), ()), [[], []])
        self.assertEqual(doubled(bore("a", 0, ["sand", "clay", "clay"]), ()), [[], [(1, 2)]])
        self.assertEqual(doubled(bore("a", 0, ["clay", "clay", "sand"]), ()), [[(0, 1)], []])

    def test_several_faults(self):
        asked = bore("a", 0, ["sand clay", "clay marl sand", "sand", "chalk sand marl"])
        self.assertEqual(doubled(asked, ()), [[(0, 4)], [(4, 5)], [(5, 7)]])
        self.assertEqual(doubled(asked, LIKES), [[(1, 2)], [(4, 5)], [(5, 7)]])

    def test_the_block_above_is_the_first_row(self):
        self.assertEqual(doubled(bore("a", 0, ["sand clay", "clay sand"]), ()), [[(0, 3)]])
        self.assertEqual(doubled(bore("a", 0, ["marl", "sand clay", "clay sand"]), ()), [[], [(1, 4)]])

    def test_the_likes_that_are_handed_in(self):
        asked = bore("a", 0, ["sand marl", "chalk silt"])
        self.assertEqual(doubled(asked, ()), [[]])
        self.assertEqual(doubled(asked, LIKES), [[(0, 3)]])
        self.assertEqual(doubled(asked, (("chalk", "marl", 1),)), [[(1, 2)]])

    def test_name_place_and_top_say_nothing(self):
        blocks = ["sand clay", "clay"]
        self.assertEqual(doubled(bore("z", GREATEST, blocks), ()), doubled(bore("a", 0, blocks), ()))

    def test_each_fault_of_many_bores(self):
        words = ["sand", "clay sand", "silt silt sand", "marl", "sand clay chalk"]
        for count in (1, 2, 3, 4):
            for blocks in itertools.permutations(words, count):
                self.assert_faults(bore("a", 0, blocks))

    def assert_faults(self, asked):
        told = doubled(asked, LIKES)
        marks = marks_of(asked)
        self.assertEqual(len(told), len(asked[3]) - 1)
        for number, pairs in enumerate(told):
            lower = sum([len(block) for block in asked[3][:number + 1]])
            upper = lower - len(asked[3][number])
            end = lower + len(asked[3][number + 1])
            within = [(one - upper, other - lower) for one, other in pairs]
            self.assertEqual(within, liken(LIKES, marks[upper:lower], marks[lower:end]))

    def test_sixty_layers(self):
        asked = bore("a", 0, ["sand clay marl"] * 20)
        told = [[(3 * fault + n, 3 * fault + 3 + n) for n in range(3)] for fault in range(19)]
        self.assertEqual(doubled(asked, ()), told)

    def test_kinds(self):
        told = doubled(bore("a", 0, ["sand", "clay", "clay"]), ())
        self.assertIs(type(told), list)
        self.assertEqual([type(pairs) for pairs in told], [list, list])
        self.assertEqual([type(pair) for pairs in told for pair in pairs], [tuple])


class ListsToldAndHandedIn(unittest.TestCase):
    def asked(self):
        bores = (bore("b", 9, ["sand", "sand clay", "marl"]), bore("a", 4, ["silt clay"]), bore("c", 20, ["chalk"]))
        return (bores, LIKES)

    def asks(self):
        field = self.asked()
        return (lambda: threads(field), lambda: doubled(field[0][0], field[1]))

    def test_told_lists_are_the_askers_own(self):
        for ask in self.asks():
            kept = ask()
            told = ask()
            told.append("more")
            told[0] = "other"
            self.assertEqual(ask(), kept)
            told.clear()
            self.assertEqual(ask(), kept)

    def test_so_are_the_lists_within(self):
        for ask in self.asks():
            kept = copy.deepcopy(ask())
            for number in range(len(kept)):
                told = ask()
                told[number].append("more")
                told[number][0] = "other"
                self.assertEqual(told[:number] + told[number + 1:], kept[:number] + kept[number + 1:])
                self.assertEqual(ask(), kept)

    def test_nothing_told_too(self):
        threads(((), ())).append("more")
        self.assertEqual(threads(((), ())), [])
        doubled(bore("a", 0, ["sand"]), ()).append("more")
        self.assertEqual(doubled(bore("a", 0, ["sand"]), ()), [])

    def test_what_is_handed_in_stays_as_it_was(self):
        field = self.asked()
        threads(field=field)
        doubled(bore=field[0][0], likes=field[1])
        self.assertEqual(field, self.asked())


if __name__ == "__main__":
    unittest.main()
